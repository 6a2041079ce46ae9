"""A cheapest plan of a plain bakery."""

from bakeahead.loaves import wanted_table
from bakeahead.rows import is_unwanted, least_row


def first_baked_on(row, light, prices, many):
    """The first day of a last stretch, baked on one day, by which so many first days cost what row tells.

    None where there is none; light is the price of lighting the oven on the day of baking, prices those of each
    day's wanted loaves, baked on it.
    """
    cost = light
    for first in reversed(range(many)):
        if prices[first] is None:
            return None
        cost += prices[first]
        if row[first] + cost == row[many]:
            return first
    return None


def last_stretch(row, lights, table, many):
    """A tuple (baked, first): the last stretch of so many first days, and the day on which it is baked."""
    firsts = [first_baked_on(row, lights[baked], table[baked], many) for baked in range(many)]
    return [(baked, first) for baked, first in enumerate(firsts) if first is not None][0]


def stretch_rows(days, baked, first, behind):
    """The rows of a plan for the wants of the days from the first one up to, without it, the one behind."""
    wants = [want for want, loaf, keep, fine in days]
    return [(baked, 0, given, wants[given]) for given in range(first, behind) if wants[given] > 0]


def cheapest(bakery):
    """A plan that fits the plain bakery, and costs no more than any other.

    The row of least costs is walked back: each number of it tells which stretch may come last. No plan costs less
    than the row's last number, so no day is lit for two stretches that the row counts twice, but where it is free.
    """
    row = least_row(bakery)
    lights, bound, goods = bakery
    days, life = goods[0]
    table = wanted_table(goods[0])
    plan = []
    many = len(lights)
    while many > 0:
        if is_unwanted(goods[0], many - 1) and row[many] == row[many - 1]:
            many -= 1
        else:
            baked, first = last_stretch(row, lights, table, many)
            plan.extend(stretch_rows(days, baked, first, many))
            many = first
    return sorted(plan)
