"""The row of least costs of a plain bakery, as days are added."""

from bakeahead.bakeries import look_at_plain
from bakeahead.loaves import wanted_table


def least_baked_on(row, light, prices, many):
    """The least cost of so many first days whose last stretch is baked on one day, None where none can be.

    row tells the least costs of fewer days; light is the price of lighting the oven on the day of baking, prices
    those of each day's wanted loaves, baked on it.
    """
    least = None
    cost = light
    for first in reversed(range(many)):
        if prices[first] is None:
            return least
        cost += prices[first]
        if least is None or row[first] + cost < least:
            least = row[first] + cost
    return least


def least_of(row, lights, table, many, ovens):
    """The least cost of so many first days, their last stretch baked on one of the days that ovens tells."""
    costs = [least_baked_on(row, lights[baked], table[baked], many) for baked in ovens]
    return min([cost for cost in costs if cost is not None])


def is_unwanted(good, day):
    """Whether nothing is wanted on a day of a good, a tuple (days, life)."""
    days, life = good
    want, loaf, keep, fine = days[day]
    return want == 0


def least_row(bakery):
    """For each number of first days, from none to all, the cost of the cheapest plan for these alone.

    It is enough that each lit day bakes for days that follow one another, so the last stretch of these is chosen, and
    a day to bake it on; what is ahead of the stretch is a smaller number of first days. No stretch has to wait for a
    day behind its end: the wants up to that day can wait for it, too, at no greater cost.
    """
    look_at_plain(bakery)
    lights, bound, goods = bakery
    good = goods[0]
    table = wanted_table(good)
    row = [0]
    for many in range(1, len(lights) + 1):
        least = least_of(row, lights, table, many, list(range(many)))
        if is_unwanted(good, many - 1):
            least = min(least, row[many - 1])
        row.append(least)
    return row
