"""Whether prices on the days' wants are let by, whoever wrote them."""

from bakeahead.bakeries import are_whole, look_at_plain
from bakeahead.loaves import wanted_table


def are_prices(days, thing):
    """Whether it is a list with a whole number for each of these days, 0 where nothing is wanted."""
    if not are_whole(thing, len(days)):
        return False
    return all([each == 0 for each, (want, loaf, keep, fine) in zip(thing, days) if want == 0])


def lets_baked_on(light, costs, prices):
    """Whether, baked on one day, no stretch's prices come to more than its light and its cost together.

    costs tells what each day's wanted loaves cost, baked on it, None where they can't be. It is enough to know, of all
    stretches that end with a day, by how much the prices of one can at most be more than its cost.
    """
    most = 0
    for cost, price in zip(costs, prices):
        most = 0 if cost is None else max(0, most + price - cost)
        if most > light:
            return False
    return True


def lets_prices(bakery, thing):
    """Whether it is a list of prices of the plain bakery that are let by."""
    look_at_plain(bakery)
    lights, bound, goods = bakery
    days, life = goods[0]
    if not are_prices(days, thing):
        return False
    return all([lets_baked_on(light, costs, thing) for light, costs in zip(lights, wanted_table(goods[0]))])
