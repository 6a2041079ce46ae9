"""Whether a tree of reasons shows that no plan is cheaper, whoever wrote it."""

from bakeahead.bakeries import is_place, is_tuple_of, look_at_bakery
from bakeahead.bottoms import are_loaf_prices, bottom
from bakeahead.toomuch import wants_too_much

SPLIT = "split"
STRETCH = "stretch"
PRICES = "prices"


def is_node(thing, word, many):
    """Whether it is a tuple of so many things that begins with a word."""
    return is_tuple_of(thing, many) and isinstance(thing[0], str) and thing[0] == word


def is_free_day(bakery, lit, dark, thing):
    """Whether it is a day of the bakery that is neither lit nor dark."""
    lights, bound, goods = bakery
    return is_place(thing, len(lights)) and thing not in lit and thing not in dark


def lets_split(bakery, cost, thing, lit, dark):
    """Whether a split is of a free day, and both of its trees are trees for the cost."""
    word, day, darker, lighter = thing
    if not is_free_day(bakery, lit, dark, day):
        return False
    if not lets_node(bakery, cost, darker, lit, sorted(dark + [day])):
        return False
    return lets_node(bakery, cost, lighter, sorted(lit + [day]), dark)


def lets_node(bakery, cost, thing, lit, dark):
    """Whether it is a tree for the cost, read with lit and dark days.

    Each split has a day of its own, so no tree is deeper than there are days.
    """
    if is_node(thing, SPLIT, 4):
        return lets_split(bakery, cost, thing, lit, dark)
    if is_node(thing, STRETCH, 3):
        return wants_too_much(bakery, dark, thing[1:])
    if is_node(thing, PRICES, 2):
        return are_loaf_prices(bakery, thing[1]) and bottom(bakery, thing[1], lit, dark) >= cost
    return False


def lets_tree(bakery, cost, thing):
    """Whether it is a tree for the cost, so that no plan costs less."""
    look_at_bakery(bakery)
    return lets_node(bakery, cost, thing, [], [])
