"""A desk that keeps ledgers by names, and answers rows of words with texts."""

from bakeahead.bakeries import is_life, look_at_day_number
from bakeahead.errors import NoName, NoRow
from bakeahead.ledger import Ledger, is_part, is_worth
from bakeahead.numbers import is_number
from bakeahead.steady import last_lits
from bakeahead.texts import NONE, row_of, word_of, worths_of

LETTERS = "abcdefghijklmnopqrstuvwxyz"
LONGEST_NAME = 8
GREATEST_DAY = 99
OK = "ok"
MAKE = "make"
CHANGE = "change"
NAME = "name"
PART = "part"
LIFE = "life"
DAY = "day"

# For the first word of each row the kinds of the words behind it; those that aren't named above are parts of a day.
FORMS = {
    "make": ("name", "life", "light", "want", "loaf", "keep", "fine"),
    "add": ("name", "light", "want", "loaf", "keep", "fine"),
    "change": ("name", "day", "part", "fine"),
    "back": ("name",),
    "least": ("name",),
    "row": ("name",),
    "day": ("name", "day"),
    "days": ("name",),
    "settled": ("name",),
    "last": ("name",),
    "twin": ("name", "name"),
    "drop": ("name",),
    "names": (),
}


def is_name(word):
    """Whether a ledger may be kept by this name."""
    return 1 <= len(word) <= LONGEST_NAME and all([sign in LETTERS for sign in word])


def is_of_kind(kind, worth):
    """Whether a whole number, or None, may stand in a place of this kind."""
    if kind == LIFE:
        return is_life(worth)
    if kind == DAY:
        return is_number(worth) and worth <= GREATEST_DAY
    return is_worth(kind, worth)


def read_worth(kind, word):
    """The number, or None, that a word writes in a place of this kind; all else is refused."""
    worths = worths_of([word])
    if not worths or not is_of_kind(kind, worths[0]):
        raise NoRow("no such number may stand there")
    return worths[0]


def read_word(kind, word):
    """What a word tells in a place of this kind: a name and a part themselves, else a number or None."""
    if kind == NAME:
        if not is_name(word):
            raise NoRow("a name has one to eight small letters")
        return word
    if kind == PART:
        if not is_part(word):
            raise NoRow("a day has no such part")
        return word
    return read_worth(kind, word)


def read_row(row):
    """A tuple (head, worths): the first word of a row, and a list of what those behind it tell; or it is refused."""
    if not isinstance(row, str):
        raise NoRow("a row is a text")
    head, *words = row.split(" ")
    if head not in FORMS:
        raise NoRow("there is no such row")
    kinds = FORMS[head]
    if len(words) != len(kinds):
        raise NoRow("a row has too few words, or too many")
    worths = [read_word(kind, word) for kind, word in zip(kinds, words)]
    if head == CHANGE and not is_worth(worths[2], worths[3]):
        raise NoRow("only a fine may be none")
    return (head, worths)


def told_numbers(numbers):
    """Numbers as a text, also where there are none."""
    return row_of(numbers) if numbers else NONE


def make(kept, worths):
    """Keep a new ledger of one day."""
    name, life, light, want, loaf, keep, fine = worths
    kept[name] = Ledger(([light], None, [([(want, loaf, keep, fine)], life)]))
    return OK


def add_day(kept, worths):
    """Add a day to a ledger."""
    name, light, want, loaf, keep, fine = worths
    kept[name].add(light, (want, loaf, keep, fine))
    return OK


def change_part(kept, worths):
    """Change a part of a day of a ledger."""
    name, day, part, number = worths
    return told_numbers(kept[name].change(day, part, number))


def take_back(kept, worths):
    """Take back a ledger's last deed."""
    numbers = kept[worths[0]].back()
    return OK if numbers is None else told_numbers(numbers)


def tell_least(kept, worths):
    """The least cost of all days."""
    return word_of(kept[worths[0]].costs()[-1])


def tell_row(kept, worths):
    """The row of least costs."""
    return row_of(kept[worths[0]].costs())


def tell_day(kept, worths):
    """The parts of a day."""
    name, day = worths
    bakery = kept[name].bakery()
    look_at_day_number(bakery, day)
    lights, bound, goods = bakery
    days, life = goods[0]
    want, loaf, keep, fine = days[day]
    return row_of([lights[day], want, loaf, keep, fine])


def tell_days(kept, worths):
    """How many days there are."""
    return word_of(len(kept[worths[0]]))


def tell_settled(kept, worths):
    """What is settled."""
    many, lit = kept[worths[0]].settled()
    return row_of([many] + lit)


def tell_last(kept, worths):
    """The last lit day."""
    return word_of(last_lits(kept[worths[0]].bakery())[-1])


def keep_twin(kept, worths):
    """Keep a twin of a ledger by another name, or by the same."""
    name, new = worths
    kept[new] = kept[name].twin()
    return OK


def drop(kept, worths):
    """Keep a ledger no longer."""
    del kept[worths[0]]
    return OK


def tell_names(kept, worths):
    """All names by which ledgers are kept."""
    return " ".join(sorted(list(kept))) if kept else NONE


ANSWERS = {
    "make": make,
    "add": add_day,
    "change": change_part,
    "back": take_back,
    "least": tell_least,
    "row": tell_row,
    "day": tell_day,
    "days": tell_days,
    "settled": tell_settled,
    "last": tell_last,
    "twin": keep_twin,
    "drop": drop,
    "names": tell_names,
}


class Desk:
    """Ledgers that are kept by names, none at first."""

    def __init__(self):
        self.kept = {}

    def say(self, row):
        """Do what a row says, and answer it with a text."""
        head, worths = read_row(row)
        if head != MAKE and worths and worths[0] not in self.kept:
            raise NoName("nothing is kept by this name")
        answer = ANSWERS[head]
        return answer(self.kept, worths)
