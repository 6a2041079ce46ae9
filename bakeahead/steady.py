"""Steady bakeries, and the last lit days of their cheapest plans, as days are added."""

from bakeahead.bakeries import is_plain, look_at_plain
from bakeahead.errors import NotSteady
from bakeahead.loaves import wanted_table
from bakeahead.rows import least_row


def never_waits(days):
    """Whether no want may wait over a night."""
    return all([fine is None for want, loaf, keep, fine in days])


def is_later_never_dearer(days):
    """Whether no loaf costs more than one that is baked on the day before it, and kept."""
    kept = [loaf + keep for want, loaf, keep, fine in days]
    fresh = [loaf for want, loaf, keep, fine in days[1:]]
    return all([new <= old for old, new in zip(kept, fresh)])


def is_steady(bakery):
    """Whether the bakery is plain, has no fines, and baking later is never dearer than keeping."""
    if not is_plain(bakery):
        return False
    lights, bound, goods = bakery
    days, life = goods[0]
    return never_waits(days) and is_later_never_dearer(days)


def look_at_steady(bakery):
    """Refuse what is no bakery, then what is no plain one, then what is no steady one."""
    look_at_plain(bakery)
    if not is_steady(bakery):
        raise NotSteady("the bakery has a fine, or a loaf that is dearer than one kept from the day before")


def ends_with(row, light, prices, first, many):
    """Whether a cheapest plan of so many first days may bake all from the first day on, and nothing else, on it."""
    stretch = prices[first:many]
    return None not in stretch and row[first] + light + sum(stretch) == row[many]


def last_lit(row, lights, table, wants, many):
    """The greatest day that is the last lit one of a cheapest plan for so many first days, None where none is lit.

    In a steady bakery the last lit day may as well bake for each day from it on; what is ahead of it is a smaller
    number of first days. Something is to be baked on it, so behind the last want there is no such day.
    """
    wanted = 0
    for day in reversed(range(many)):
        wanted += wants[day]
        if wanted > 0 and ends_with(row, lights[day], table[day], day, many):
            return day
    return None


def last_lits(bakery):
    """For each number of first days, from none to all, the last lit day, None where nothing is wanted on them."""
    look_at_steady(bakery)
    lights, bound, goods = bakery
    days, life = goods[0]
    row = least_row(bakery)
    table = wanted_table(goods[0])
    wants = [want for want, loaf, keep, fine in days]
    return [last_lit(row, lights, table, wants, many) for many in range(len(lights) + 1)]
