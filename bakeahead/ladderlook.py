"""Whether a ladder of numbers shows that no plan with doughs is cheaper, whoever wrote it."""

from bakeahead.bakeries import are_whole, is_list_of, is_tuple_of
from bakeahead.doughs import dough_price, look_at_doughs
from bakeahead.loaves import wanted_table
from bakeahead.rows import is_unwanted


def is_ladder(thing, days):
    """Whether it is a tuple (free, mixed), whether it is let by or not.

    The rungs are whole numbers, one for each number of first days, from none to all.
    """
    if not is_tuple_of(thing, 2):
        return False
    free, mixed = thing
    if not are_whole(free, days + 1) or free[0] != 0 or not is_list_of(mixed, days, days):
        return False
    return all([are_whole(rungs, days + 1) for rungs in mixed])


def dough_table(good, doughs, mixed):
    """For each day of baking from that of mixing on a list with, for each day, the price of all loaves wanted on it.

    Their doughs are in it; it is None where such loaves have no price.
    """
    days, life = good
    table = []
    for baked, costs in enumerate(wanted_table(good)):
        if baked >= mixed:
            each = dough_price(doughs, mixed, baked)
            table.append([None if cost is None else cost + day[0] * each for cost, day in zip(costs, days)])
    return table


def lets_mixing(free, rungs, mix):
    """Whether no rung is below the free one, nor above that and the mix together."""
    return all([low <= rung <= low + mix for low, rung in zip(free, rungs)])


def lets_unwanted(good, rungs):
    """Whether no rung behind a day without a want is above the one ahead of it."""
    days, life = good
    return all([rungs[day + 1] <= rungs[day] for day in range(len(days)) if is_unwanted(good, day)])


def lets_baking(rungs, light, costs):
    """Whether, baked on one day, no rung is above an earlier one, the light and the stretch between them together.

    costs tells what each day's wanted loaves cost, None where they have no price. It is enough to know, of all
    stretches that end with a day, to how little an earlier rung and the stretch come.
    """
    least = None
    for day, cost in enumerate(costs):
        if cost is None:
            least = None
        else:
            least = rungs[day] + cost if least is None else min(least, rungs[day]) + cost
            if rungs[day + 1] > least + light:
                return False
    return True


def lets_mixed(bakery, doughs, free, rungs, day):
    """Whether the rungs of a day of mixing are let by."""
    lights, bound, goods = bakery
    mix, dough, hold = doughs[day]
    if not lets_mixing(free, rungs, mix) or not lets_unwanted(goods[0], rungs):
        return False
    table = dough_table(goods[0], doughs, day)
    return all([lets_baking(rungs, light, costs) for light, costs in zip(lights[day:], table)])


def lets_ladder(bakery, doughs, thing):
    """Whether it is a ladder that is let by, so that no plan with doughs costs less than it comes to."""
    look_at_doughs(bakery, doughs)
    lights, bound, goods = bakery
    if not is_ladder(thing, len(lights)):
        return False
    free, mixed = thing
    if not lets_unwanted(goods[0], free):
        return False
    return all([lets_mixed(bakery, doughs, free, rungs, day) for day, rungs in enumerate(mixed)])
