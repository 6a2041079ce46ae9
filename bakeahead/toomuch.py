"""Stretches of days that want too much, where on some days nothing may be baked."""

from bakeahead.bakeries import is_place, is_tuple_of, look_at_bakery, look_at_days
from bakeahead.loaves import good_reach


def reached_wants(good):
    """For each day of a good a tuple (first, last, want): its reach, and how many loaves are wanted."""
    days, life = good
    return [good_reach(good, given) + (days[given][0],) for given in range(len(days))]


def all_wants(bakery):
    """Such tuples of the days of all goods."""
    lights, bound, goods = bakery
    return [want for good in goods for want in reached_wants(good)]


def room_of_day(bakery):
    """How many loaves can be baked on a day; without a bound all that are wanted, as no more ever are."""
    lights, bound, goods = bakery
    if bound is not None:
        return bound
    return sum([want for days, life in goods for want, loaf, keep, fine in days])


def rooms_beside(bakery, dark):
    """For each day how many loaves can be baked on it, none on dark days."""
    lights, bound, goods = bakery
    room = room_of_day(bakery)
    return [0 if day in dark else room for day in range(len(lights))]


def last_too_much(wants, rooms, first):
    """The least last day such that the stretch from the first one to it wants too much, None where none does."""
    ends = [0 for room in rooms]
    for start, end, many in wants:
        if start >= first:
            ends[end] += many
    over = 0
    for last in range(first, len(rooms)):
        over += ends[last] - rooms[last]
        if over > 0:
            return last
    return None


def first_stretch(wants, rooms):
    """The first stretch (first, last) that wants more than its days have room for, None where none does.

    wants is a list of tuples (first, last, many): so many loaves are to be baked on these days.
    """
    for first in range(len(rooms)):
        last = last_too_much(wants, rooms, first)
        if last is not None:
            return (first, last)
    return None


def too_much(bakery, dark):
    """The first stretch that wants too much, None where there is a plan that fits and bakes on no dark day."""
    look_at_bakery(bakery)
    look_at_days(bakery, dark)
    return first_stretch(all_wants(bakery), rooms_beside(bakery, dark))


def is_stretch(bakery, thing):
    """Whether it is a tuple (first, last) of days of the bakery, first at most last."""
    lights, bound, goods = bakery
    if not is_tuple_of(thing, 2):
        return False
    first, last = thing
    return is_place(first, len(lights)) and is_place(last, len(lights)) and first <= last


def wants_too_much(bakery, dark, thing):
    """Whether it is a stretch that wants too much."""
    look_at_bakery(bakery)
    look_at_days(bakery, dark)
    if not is_stretch(bakery, thing):
        return False
    first, last = thing
    wanted = sum([many for start, end, many in all_wants(bakery) if first <= start and end <= last])
    return wanted > sum(rooms_beside(bakery, dark)[first:last + 1])
