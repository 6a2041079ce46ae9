"""A cheapest plan with doughs, and a ladder that comes to its cost."""

from bakeahead.cheapest import first_baked_on, stretch_rows
from bakeahead.doughs import look_at_doughs
from bakeahead.errors import TooMany
from bakeahead.ladderlook import dough_table
from bakeahead.rows import is_unwanted, least_baked_on

MOST_MIXED = 12


def least_mixed(rungs, lights, table, unwanted):
    """The next rung of a day of mixing that is paid for already, None where it can't be reached so.

    lights and table tell of the days of baking from that of mixing on. The last stretch is baked on one of these, or
    else nothing is wanted on the last day.
    """
    many = len(rungs)
    costs = [least_baked_on(rungs, light, prices, many) for light, prices in zip(lights, table)]
    if unwanted:
        costs.append(rungs[-1])
    return min([cost for cost in costs if cost is not None], default=None)


def built(bakery, doughs, tables):
    """The ladder whose rungs are least costs: of so many first days, with no mixing paid for, or with that of a day.

    It is enough that a lit day bakes for days that follow one another, all of one mixing, and that a mixing is for
    lit days that follow one another; so one mixing at a time is paid for, and left, before there is a next one.
    """
    lights, bound, goods = bakery
    free = [0]
    mixed = [[mix] for mix, dough, hold in doughs]
    for day in range(len(lights)):
        unwanted = is_unwanted(goods[0], day)
        nexts = [least_mixed(mixed[each], lights[each:], tables[each], unwanted) for each in range(len(lights))]
        known = [cost for cost in nexts if cost is not None]
        free.append(min(known + [free[-1]] if unwanted else known))
        for rungs, (mix, dough, hold), cost in zip(mixed, doughs, nexts):
            afresh = free[-1] + mix
            rungs.append(afresh if cost is None else min(cost, afresh))
    return (free, mixed)


def last_stretches(rungs, lights, table, day, many):
    """Tuples (day, baked, first): the last stretches of so many first days that come to the rung, mixed on the day."""
    firsts = [first_baked_on(rungs, light, prices, many) for light, prices in zip(lights[day:], table)]
    return [(day, day + at, first) for at, first in enumerate(firsts) if first is not None]


def last_free_stretch(ladder, lights, tables, many):
    """A tuple (day, baked, first): a last stretch of so many first days that comes to the free rung."""
    free, mixed = ladder
    found = []
    for day, rungs in enumerate(mixed):
        if rungs[many] == free[many]:
            found.extend(last_stretches(rungs, lights, tables[day], day, many))
    return found[0]


def walked_back(bakery, doughs, ladder, tables):
    """The stretches of a plan that comes to the ladder's end: a list of tuples (mixed, baked, first, behind).

    day tells the mixing that is paid for, None where none is, as ahead of the place where it is paid for.
    """
    lights, bound, goods = bakery
    free, mixed = ladder
    stretches = []
    day = None
    many = len(lights)
    while many > 0:
        if day is not None and mixed[day][many] == free[many] + doughs[day][0]:
            day = None
        rungs = free if day is None else mixed[day]
        if is_unwanted(goods[0], many - 1) and rungs[many] == rungs[many - 1]:
            many -= 1
        else:
            if day is None:
                day, baked, first = last_free_stretch(ladder, lights, tables, many)
            else:
                day, baked, first = last_stretches(rungs, lights, tables[day], day, many)[0]
            stretches.append((day, baked, first, many))
            many = first
    return stretches


def cheapest_doughs(bakery, doughs):
    """A tuple (plan, ladder) of at most twelve days: a plan with doughs, and a ladder that comes to its cost."""
    look_at_doughs(bakery, doughs)
    lights, bound, goods = bakery
    if len(lights) > MOST_MIXED:
        raise TooMany("there are more than twelve days")
    tables = [dough_table(goods[0], doughs, day) for day in range(len(lights))]
    ladder = built(bakery, doughs, tables)
    days, life = goods[0]
    plan = []
    for mixed, baked, first, behind in walked_back(bakery, doughs, ladder, tables):
        rows = stretch_rows(days, baked, first, behind)
        plan.extend([(mixed, baked, given, many) for oven, good, given, many in rows])
    return (sorted(plan), ladder)
