"""What a loaf costs that is baked on one day and given for the want of another."""

from bakeahead.bakeries import look_at_bakery, look_at_day_number, look_at_good_number
from bakeahead.errors import NoDay


def keeps_of(days, first, behind):
    """The price of keeping a loaf over the nights from the first one up to, without it, the one behind."""
    return sum([keep for want, loaf, keep, fine in days[first:behind]])


def fines_of(days, first, behind):
    """The fine for a loaf that waits over such nights, None where one of them has none."""
    fines = [fine for want, loaf, keep, fine in days[first:behind]]
    return None if None in fines else sum(fines)


def loaf_price(good, baked, given):
    """The price of a loaf of a good, a tuple (days, life), that is known to be one, as these days are."""
    days, life = good
    want, loaf, keep, fine = days[baked]
    if baked > given:
        fines = fines_of(days, given, baked)
        return None if fines is None else loaf + fines
    if life is not None and given - baked > life:
        return None
    return loaf + keeps_of(days, baked, given)


def good_reach(good, given):
    """The first and the last day on which loaves for a day can be baked, of a good that is known to be one."""
    days, life = good
    first = 0 if life is None else max(0, given - life)
    last = given
    while last + 1 < len(days) and days[last][3] is not None:
        last += 1
    return (first, last)


def wanted_price(good, baked, given):
    """The price of all loaves that are wanted on a day: 0 where none are, None where such a loaf has none."""
    days, life = good
    want = days[given][0]
    if want == 0:
        return 0
    each = loaf_price(good, baked, given)
    return None if each is None else want * each


def wanted_table(good):
    """For each day of baking a list with, for each day, the price of all loaves wanted on it."""
    days, life = good
    return [[wanted_price(good, baked, given) for given in range(len(days))] for baked in range(len(days))]


def price(bakery, good, baked, given):
    """The price of a loaf of a good, by its number, or None where it has none."""
    look_at_bakery(bakery)
    look_at_good_number(bakery, good)
    look_at_day_number(bakery, baked)
    look_at_day_number(bakery, given)
    lights, bound, goods = bakery
    return loaf_price(goods[good], baked, given)


def reach(bakery, good, given):
    """A tuple of the first and the last day on which loaves for a day can be baked."""
    look_at_bakery(bakery)
    look_at_good_number(bakery, good)
    look_at_day_number(bakery, given)
    lights, bound, goods = bakery
    return good_reach(goods[good], given)


def stretch_price(bakery, good, baked, first, last):
    """The price of all loaves wanted on the days from first to last, baked on one day, or None."""
    look_at_bakery(bakery)
    look_at_good_number(bakery, good)
    for day in (baked, first, last):
        look_at_day_number(bakery, day)
    if last < first:
        raise NoDay("the last day of a stretch is none below its first")
    lights, bound, goods = bakery
    prices = [wanted_price(goods[good], baked, given) for given in range(first, last + 1)]
    return None if None in prices else sum(prices)
