"""Loaf prices, and the bottom that they put under the cost of plans, whoever wrote them."""

from bakeahead.bakeries import are_whole, is_list_of, look_at_bakery, look_at_day_number
from bakeahead.loaves import loaf_price
from bakeahead.toomuch import room_of_day


def are_loaf_prices(bakery, thing):
    """Whether it is a list with, for each good, a list with a whole number for each day."""
    look_at_bakery(bakery)
    lights, bound, goods = bakery
    if not is_list_of(thing, len(goods), len(goods)):
        return False
    return all([are_whole(prices, len(lights)) for prices in thing])


def offers_on(bakery, prices, baked):
    """Tuples (more, want): by how much a loaf's price for a want is more than it costs, baked on a day, if it is."""
    lights, bound, goods = bakery
    offers = []
    for each, offered in zip(goods, prices):
        days, life = each
        for given in range(len(days)):
            cost = loaf_price(each, baked, given)
            if cost is not None and offered[given] > cost:
                offers.append((offered[given] - cost, days[given][0]))
    return offers


def gain_on(bakery, prices, day):
    """The gain of a day that there is: the best offers are taken, as far as there is room."""
    room = room_of_day(bakery)
    total = 0
    for more, want in sorted(offers_on(bakery, prices, day), reverse=True):
        many = min(want, room)
        total += more * many
        room -= many
    return total


def gain(bakery, prices, day):
    """The greatest sum that loaves baked on a day can come to, each by its loaf price less what it costs."""
    look_at_bakery(bakery)
    look_at_day_number(bakery, day)
    return gain_on(bakery, prices, day)


def worth_of_wants(bakery, prices):
    """The sum of all wants, each times its loaf price."""
    lights, bound, goods = bakery
    wants = [(day[0], price) for (days, life), offered in zip(goods, prices) for day, price in zip(days, offered)]
    return sum([want * price for want, price in wants])


def bottom(bakery, prices, lit, dark):
    """What no plan that bakes on all of the lit days, and on none of the dark ones, costs less than."""
    look_at_bakery(bakery)
    lights, bound, goods = bakery
    total = worth_of_wants(bakery, prices)
    for day, light in enumerate(lights):
        if day in lit:
            total += light - gain_on(bakery, prices, day)
        elif day not in dark:
            total += min(0, light - gain_on(bakery, prices, day))
    return total
