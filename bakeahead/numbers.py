"""Whole numbers, and the numbers that a bakery is made of."""

GREATEST = 10 ** 9


def is_whole(thing):
    """Whether it is a whole number: an int that is no truth."""
    return isinstance(thing, int) and not isinstance(thing, bool)


def is_number(thing):
    """Whether it is a whole number from 0 to 10 ** 9."""
    return is_whole(thing) and 0 <= thing <= GREATEST
