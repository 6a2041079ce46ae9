"""What a bakery is, and the refusal of what is none."""

from bakeahead.errors import NoBakery, NoDay, NoDays, NoGood, NotPlain
from bakeahead.numbers import is_number, is_whole

MOST_DAYS = 40
MOST_GOODS = 2
LONGEST_LIFE = 40


def is_tuple_of(thing, many):
    """Whether it is a tuple of so many things."""
    return isinstance(thing, tuple) and len(thing) == many


def is_list_of(thing, fewest, most):
    """Whether it is a list of so few to so many things."""
    return isinstance(thing, list) and fewest <= len(thing) <= most


def are_whole(thing, many):
    """Whether it is a list of so many whole numbers."""
    return is_list_of(thing, many, many) and all([is_whole(each) for each in thing])


def are_lights(thing):
    """Whether it is a list of the days' prices of lighting the oven."""
    return is_list_of(thing, 1, MOST_DAYS) and all([is_number(light) for light in thing])


def is_bound(thing):
    """Whether it is None, or a number of loaves that can be baked on a day."""
    return thing is None or (is_number(thing) and thing >= 1)


def is_life(thing):
    """Whether it is None, or a number of nights over which a loaf keeps."""
    return thing is None or (is_whole(thing) and 0 <= thing <= LONGEST_LIFE)


def is_day(thing):
    """Whether it is a tuple (want, loaf, keep, fine)."""
    if not is_tuple_of(thing, 4):
        return False
    want, loaf, keep, fine = thing
    return all([is_number(part) for part in (want, loaf, keep)]) and (fine is None or is_number(fine))


def has_bakery_form(thing):
    """Whether it is a tuple (lights, bound, goods), whatever the goods are made of."""
    if not is_tuple_of(thing, 3):
        return False
    lights, bound, goods = thing
    return are_lights(lights) and is_bound(bound) and is_list_of(goods, 1, MOST_GOODS)


def has_good_form(thing, many):
    """Whether it is a tuple (days, life) of so many days, whatever the days are made of."""
    if not is_tuple_of(thing, 2):
        return False
    days, life = thing
    return is_list_of(days, many, many) and is_life(life)


def look_at_goods(goods, many):
    """Refuse the first thing that is no good of so many days."""
    for number, good in enumerate(goods):
        if not has_good_form(good, many):
            raise NoBakery(number, None)
        days, life = good
        for at, day in enumerate(days):
            if not is_day(day):
                raise NoBakery(number, at)


def look_at_bakery(thing):
    """Refuse what is no bakery."""
    if not has_bakery_form(thing):
        raise NoBakery(None, None)
    lights, bound, goods = thing
    look_at_goods(goods, len(lights))


def is_plain(bakery):
    """Whether the bakery has one good and no bound."""
    look_at_bakery(bakery)
    lights, bound, goods = bakery
    return bound is None and len(goods) == 1


def look_at_plain(bakery):
    """Refuse what is no bakery, then what is no plain one."""
    if not is_plain(bakery):
        raise NotPlain("the bakery has two goods, or a bound")


def is_place(thing, many):
    """Whether it is the number of one of so many things that are numbered from 0."""
    return is_whole(thing) and 0 <= thing < many


def look_at_good_number(bakery, thing):
    """Refuse what is not the number of a good of the bakery."""
    lights, bound, goods = bakery
    if not is_place(thing, len(goods)):
        raise NoGood("the bakery has no such good")


def look_at_day_number(bakery, thing):
    """Refuse what is not the number of a day of the bakery."""
    lights, bound, goods = bakery
    if not is_place(thing, len(lights)):
        raise NoDay("the bakery has no such day")


def look_at_days(bakery, thing):
    """Refuse what is no rising list of days of the bakery."""
    lights, bound, goods = bakery
    if not isinstance(thing, list) or not all([is_place(day, len(lights)) for day in thing]):
        raise NoDays("there are no such days")
    if not all([day < following for day, following in zip(thing, thing[1:])]):
        raise NoDays("the days are not rising")
