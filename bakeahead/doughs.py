"""Doughs that are mixed ahead, and plans with them."""

from bakeahead.bakeries import is_list_of, is_place, is_tuple_of, look_at_plain
from bakeahead.errors import NoDoughs
from bakeahead.loaves import loaf_price
from bakeahead.numbers import is_number, is_whole
from bakeahead.plans import are_rising, have_prices, meets_wants


def is_dough(thing):
    """Whether it is a tuple (mix, dough, hold)."""
    return is_tuple_of(thing, 3) and all([is_number(part) for part in thing])


def look_at_doughs(bakery, thing):
    """Refuse what is no plain bakery, then what are no doughs for it."""
    look_at_plain(bakery)
    lights, bound, goods = bakery
    if not is_list_of(thing, len(lights), len(lights)):
        raise NoDoughs(None)
    for day, dough in enumerate(thing):
        if not is_dough(dough):
            raise NoDoughs(day)


def dough_price(doughs, mixed, baked):
    """The price of the dough for a loaf: that of the day it is mixed on, and the holds up to the day of baking."""
    mix, dough, hold = doughs[mixed]
    return dough + sum([held for other, price, held in doughs[mixed:baked]])


def is_dough_row(bakery, thing):
    """Whether it is a tuple (mixed, baked, given, many), of days of the bakery, mixed at most baked."""
    if not is_tuple_of(thing, 4):
        return False
    lights, bound, goods = bakery
    mixed, baked, given, many = thing
    if not all([is_place(day, len(lights)) for day in (mixed, baked, given)]):
        return False
    return mixed <= baked and is_whole(many) and many >= 1


def without_doughs(plan):
    """The rows of a plan with doughs as those of one without; two of them may be alike but in how many."""
    return [(baked, 0, given, many) for mixed, baked, given, many in plan]


def fits_doughs(bakery, doughs, thing):
    """Whether it is a plan with doughs that fits the bakery."""
    look_at_doughs(bakery, doughs)
    if not isinstance(thing, list) or not all([is_dough_row(bakery, row) for row in thing]):
        return False
    loaves = without_doughs(thing)
    return are_rising(thing) and have_prices(bakery, loaves) and meets_wants(bakery, loaves)


def dough_cost(bakery, doughs, plan):
    """What a plan with doughs that fits costs: mixes and lights once for each day, dough and loaf for each loaf."""
    look_at_doughs(bakery, doughs)
    lights, bound, goods = bakery
    mixes = sum([doughs[day][0] for day in sorted({mixed for mixed, baked, given, many in plan})])
    lit = sum([lights[day] for day in sorted({baked for mixed, baked, given, many in plan})])
    cost = mixes + lit
    for mixed, baked, given, many in plan:
        cost += many * (dough_price(doughs, mixed, baked) + loaf_price(goods[0], baked, given))
    return cost
