"""Plans: which loaves are baked when, for which wants; whether a plan fits, and what it costs."""

from bakeahead.bakeries import is_place, is_tuple_of, look_at_bakery
from bakeahead.loaves import loaf_price
from bakeahead.numbers import is_whole


def is_plan_row(bakery, thing):
    """Whether it is a tuple (baked, good, given, many), of days and a good of the bakery."""
    if not is_tuple_of(thing, 4):
        return False
    lights, bound, goods = bakery
    baked, good, given, many = thing
    days = len(lights)
    places = is_place(baked, days) and is_place(good, len(goods)) and is_place(given, days)
    return places and is_whole(many) and many >= 1


def are_rising(plan):
    """Whether the rows are sorted, and no two alike in the first three."""
    heads = [row[:3] for row in plan]
    return all([head < following for head, following in zip(heads, heads[1:])])


def have_prices(bakery, plan):
    """Whether each loaf of the plan has a price."""
    lights, bound, goods = bakery
    return all([loaf_price(goods[good], baked, given) is not None for baked, good, given, many in plan])


def meets_wants(bakery, plan):
    """Whether each want of each good is met by just so many loaves."""
    lights, bound, goods = bakery
    wants = [[want for want, loaf, keep, fine in days] for days, life in goods]
    met = [[0 for day in days] for days, life in goods]
    for baked, good, given, many in plan:
        met[good][given] += many
    return met == wants


def keeps_bound(bakery, plan):
    """Whether on no day more loaves are baked than the bound."""
    lights, bound, goods = bakery
    if bound is None:
        return True
    loaves = [0 for light in lights]
    for baked, good, given, many in plan:
        loaves[baked] += many
    return max(loaves) <= bound


def fits(bakery, thing):
    """Whether it is a plan that fits the bakery."""
    look_at_bakery(bakery)
    if not isinstance(thing, list) or not all([is_plan_row(bakery, row) for row in thing]):
        return False
    sound = are_rising(thing) and have_prices(bakery, thing)
    return sound and meets_wants(bakery, thing) and keeps_bound(bakery, thing)


def lit_days(plan):
    """The days on which something is baked, rising, each once."""
    return sorted({baked for baked, good, given, many in plan})


def cost_of(bakery, plan):
    """What a plan that fits costs: the lights of its lit days, and the prices of all its loaves."""
    look_at_bakery(bakery)
    lights, bound, goods = bakery
    lit = sum([lights[day] for day in lit_days(plan)])
    return lit + sum([many * loaf_price(goods[good], baked, given) for baked, good, given, many in plan])
