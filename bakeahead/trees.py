"""A cheapest plan of a bakery of few days, with a tree of reasons."""

from bakeahead.bakeries import look_at_bakery
from bakeahead.bottoms import bottom, gain
from bakeahead.errors import TooMany
from bakeahead.flows import baked_on, loaf_prices, look_at_lit
from bakeahead.plans import cost_of, lit_days
from bakeahead.toomuch import too_much
from bakeahead.treelook import PRICES, SPLIT, STRETCH

MOST_SPLIT = 6


def split_day(bakery, plan, prices, lit):
    """The day to split: one that the plan lights, though by the loaf prices its light is most above its gain.

    Where the bottom is less than the plan's cost there is such a day: the plan's loaves cost what the wants, less all
    gains, come to, so the bottom lacks nothing but lights above their gains.
    """
    lights, bound, goods = bakery
    above = [(lights[day] - gain(bakery, prices, day), day) for day in lit_days(plan) if day not in lit]
    most, day = max(above)
    return day


def grown(bakery, lit, dark, found):
    """A tree for the cost of the cheapest plan that is found till the end, read with these lit and dark days.

    found is a list of plans, each cheaper than the one before it: a cheaper one is put behind. What is a tree for the
    cost of the last plan is one for that of a cheaper plan, too.
    """
    stretch = too_much(bakery, dark)
    if stretch is not None:
        return (STRETCH,) + stretch
    lights, bound, goods = bakery
    ovens = [day for day in range(len(lights)) if day not in dark]
    plan = baked_on(bakery, ovens)
    if not found or cost_of(bakery, plan) < cost_of(bakery, found[-1]):
        found.append(plan)
    prices = loaf_prices(bakery, ovens)
    if bottom(bakery, prices, lit, dark) >= cost_of(bakery, found[-1]):
        return (PRICES, prices)
    day = split_day(bakery, plan, prices, lit)
    darker = grown(bakery, lit, sorted(dark + [day]), found)
    return (SPLIT, day, darker, grown(bakery, sorted(lit + [day]), dark, found))


def cheapest_tree(bakery):
    """A tuple (plan, tree): a plan that fits a bakery of at most six days, and a tree for its cost."""
    look_at_bakery(bakery)
    lights, bound, goods = bakery
    if len(lights) > MOST_SPLIT:
        raise TooMany("there are more than six days")
    look_at_lit(bakery, list(range(len(lights))))
    found = []
    tree = grown(bakery, [], [], found)
    return (found[-1], tree)
