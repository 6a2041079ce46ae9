"""Prices on the days' wants, by which anybody sees that no plan is cheaper."""

from bakeahead.bakeries import look_at_plain
from bakeahead.loaves import wanted_table
from bakeahead.rows import is_unwanted, least_of


def anywhere_row(bakery):
    """For each number of first days the least cost of their wants, baked on any day of all.

    Other than in the row of least costs, a want may wait for a day behind these. So no number is less than one before
    it, a day without a want adds nothing, and no stretch, whatever day it is baked on, adds more than it costs.
    """
    lights, bound, goods = bakery
    table = wanted_table(goods[0])
    ovens = list(range(len(lights)))
    row = [0]
    for many in range(1, len(lights) + 1):
        if is_unwanted(goods[0], many - 1):
            row.append(row[many - 1])
        else:
            row.append(least_of(row, lights, table, many, ovens))
    return row


def prices_of(bakery):
    """For each day of the plain bakery a whole number: prices that are let by, and come to the least cost."""
    look_at_plain(bakery)
    row = anywhere_row(bakery)
    return [behind - ahead for ahead, behind in zip(row, row[1:])]
