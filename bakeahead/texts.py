"""Bakeries and plans as texts, and back."""

from bakeahead.bakeries import MOST_GOODS, are_lights, is_bound, is_day, is_life, look_at_bakery
from bakeahead.errors import NoText
from bakeahead.loaves import good_reach, loaf_price
from bakeahead.plans import are_rising, fits, is_plan_row
from bakeahead.toomuch import first_stretch, room_of_day

FIGURES = "0123456789"
MOST_FIGURES = 10
NONE = "-"
OVEN = "oven"
LIGHTS = "lights"
GOOD = "good"
HEAD_ROWS = 2


def word_of(worth):
    """A number, or None, as a word."""
    return NONE if worth is None else str(worth)


def row_of(worths):
    """Numbers, or None, as words parted by one blank each."""
    return " ".join([word_of(worth) for worth in worths])


def good_rows(good):
    """The rows of a good: its life, then its days."""
    days, life = good
    return [f"{GOOD} {word_of(life)}"] + [row_of(day) for day in days]


def show_bakery(bakery):
    """The bakery as a text."""
    look_at_bakery(bakery)
    lights, bound, goods = bakery
    rows = [f"{OVEN} {word_of(bound)}", f"{LIGHTS} {row_of(lights)}"]
    for good in goods:
        rows.extend(good_rows(good))
    return "\n".join(rows)


def show_plan(plan):
    """The plan as a text."""
    return "\n".join([row_of(row) for row in plan])


def is_written(word):
    """Whether a word is the sign for None, or figures without a nought ahead, not too many for a number."""
    if word == NONE or word == "0":
        return True
    if not 1 <= len(word) <= MOST_FIGURES or word[0] == "0":
        return False
    return all([sign in FIGURES for sign in word])


def worths_of(words):
    """The whole numbers, or None, that words write; [] where one of them writes nothing such."""
    if not all([is_written(word) for word in words]):
        return []
    return [None if word == NONE else int(word) for word in words]


def worths_behind(head, row):
    """What a row writes behind its first word, [] where that is another one."""
    words = row.split(" ")
    return worths_of(words[1:]) if words[0] == head else []


def is_oven_row(row):
    """Whether it is a row that tells the bound."""
    worths = worths_behind(OVEN, row)
    return len(worths) == 1 and is_bound(worths[0])


def is_lights_row(row):
    """Whether it is a row that tells the lights."""
    return are_lights(worths_behind(LIGHTS, row))


def is_good_row(row):
    """Whether it is a row that tells a good's life."""
    worths = worths_behind(GOOD, row)
    return len(worths) == 1 and is_life(worths[0])


def is_day_row(row):
    """Whether it is a row that tells a good's day."""
    return is_day(tuple(worths_of(row.split(" "))))


def rows_per_good(rows):
    """How many rows a good has: one, and one for each light."""
    return 1 + len(worths_behind(LIGHTS, rows[1]))


def is_bakery_row(rows, at):
    """Whether a row may stand at its place, where all rows ahead of it may at theirs."""
    if at == 0:
        return is_oven_row(rows[at])
    if at == 1:
        return is_lights_row(rows[at])
    many = rows_per_good(rows)
    if at >= HEAD_ROWS + MOST_GOODS * many:
        return False
    return is_good_row(rows[at]) if (at - HEAD_ROWS) % many == 0 else is_day_row(rows[at])


def is_ended(rows):
    """Whether rows that may all stand at their places end with a whole good."""
    return len(rows) > HEAD_ROWS and (len(rows) - HEAD_ROWS) % rows_per_good(rows) == 0


def rows_of(text):
    """The rows of a text; what is no text is refused."""
    if not isinstance(text, str):
        raise NoText(0)
    return [] if text == "" else text.split("\n")


def read_good(rows):
    """The good that its rows tell."""
    days = [tuple(worths_of(row.split(" "))) for row in rows[1:]]
    return (days, worths_behind(GOOD, rows[0])[0])


def read_bakery(text):
    """The bakery that a text tells; all else is refused."""
    rows = rows_of(text)
    for at in range(len(rows)):
        if not is_bakery_row(rows, at):
            raise NoText(at)
    if not is_ended(rows):
        raise NoText(len(rows))
    many = rows_per_good(rows)
    goods = [read_good(rows[at:at + many]) for at in range(HEAD_ROWS, len(rows), many)]
    return (worths_behind(LIGHTS, rows[1]), worths_behind(OVEN, rows[0])[0], goods)


def left_wants(bakery, plan):
    """For each good a list with, for each day, how many loaves are wanted still; below 0 where there are too many."""
    lights, bound, goods = bakery
    left = [[want for want, loaf, keep, fine in days] for days, life in goods]
    for baked, good, given, many in plan:
        left[good][given] -= many
    return left


def open_wants(bakery, plan):
    """A list of tuples (first, last, many): what is wanted still, and when rows behind the plan's can bake it.

    A row behind the last one may be of the same day of baking only for a later day, or another good.
    """
    lights, bound, goods = bakery
    baked, good, given, many = plan[-1]
    left = left_wants(bakery, plan)
    wants = []
    for number, each in enumerate(goods):
        for day, many_left in enumerate(left[number]):
            first, last = good_reach(each, day)
            start = baked if (number, day) > (good, given) else baked + 1
            wants.append((max(first, start), last, many_left))
    return [want for want in wants if want[2] != 0]


def rooms_behind(bakery, plan):
    """For each day how many loaves the rows behind the plan's can bake on it."""
    lights, bound, goods = bakery
    room = room_of_day(bakery)
    baked = plan[-1][0]
    loaves = sum([row[3] for row in plan if row[0] == baked])
    return [0 for day in range(baked)] + [room - loaves] + [room for day in range(baked + 1, len(lights))]


def can_be_ended(bakery, plan):
    """Whether rows can come behind the plan's, if any are needed, by which it fits."""
    wants = open_wants(bakery, plan)
    if any([many < 0 or first > last for first, last, many in wants]):
        return False
    return first_stretch(wants, rooms_behind(bakery, plan)) is None


def is_beginning(bakery, plan):
    """Whether a plan that fits begins with these rows, where one begins with all but the last of them."""
    lights, bound, goods = bakery
    if not is_plan_row(bakery, plan[-1]) or not are_rising(plan[-2:]):
        return False
    baked, good, given, many = plan[-1]
    return loaf_price(goods[good], baked, given) is not None and can_be_ended(bakery, plan)


def read_plan(bakery, text):
    """The plan that fits the bakery and that a text tells; all else is refused."""
    look_at_bakery(bakery)
    plan = []
    for at, row in enumerate(rows_of(text)):
        plan.append(tuple(worths_of(row.split(" "))))
        if not is_beginning(bakery, plan):
            raise NoText(at)
    if not fits(bakery, plan):
        raise NoText(len(plan))
    return plan
