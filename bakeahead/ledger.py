"""A ledger of days that are added behind, changed, and taken back."""

from bakeahead.bakeries import MOST_DAYS, is_day, is_place, look_at_plain
from bakeahead.cheapest import cheapest
from bakeahead.errors import NoBack, NoDay, NoNumber, NoPart, TooMany
from bakeahead.numbers import is_number
from bakeahead.prices import prices_of
from bakeahead.rows import least_row
from bakeahead.settled import settled
from bakeahead.texts import show_bakery

LIGHT = "light"
FINE = "fine"
PARTS = ("want", "loaf", "keep", "fine")


def is_part(thing):
    """Whether it is the name of a part of a day."""
    return isinstance(thing, str) and (thing == LIGHT or thing in PARTS)


def is_worth(part, thing):
    """Whether a part of a day can be set to it."""
    return is_number(thing) or (part == FINE and thing is None)


def with_part(day, part, number):
    """The tuple of a day with another number for one of its parts."""
    return tuple([number if name == part else worth for name, worth in zip(PARTS, day)])


def others_now(before, after):
    """The places at which two rows of the same length differ."""
    return [at for at, (old, new) in enumerate(zip(before, after)) if old != new]


class Ledger:
    """A plain bakery, with the deeds that led to it and can be taken back.

    A deed is None where a day was added, else a tuple (day, part, number): what stood there ahead of a change.
    """

    def __init__(self, bakery):
        look_at_plain(bakery)
        lights, bound, goods = bakery
        days, life = goods[0]
        self.lights = list(lights)
        self.days = list(days)
        self.life = life
        self.deeds = []

    def __len__(self):
        return len(self.lights)

    def __eq__(self, other):
        if not isinstance(other, Ledger):
            return False
        return self.lights == other.lights and self.days == other.days and self.life == other.life

    def __str__(self):
        return str(show_bakery(self.bakery()))

    def bakery(self):
        """The bakery as it is now."""
        return (list(self.lights), None, [(list(self.days), self.life)])

    def costs(self):
        """The row of least costs."""
        return least_row(self.bakery())

    def plan(self):
        """A cheapest plan."""
        return cheapest(self.bakery())

    def prices(self):
        """Prices that are let by and come to the least cost."""
        return prices_of(self.bakery())

    def settled(self):
        """What is settled, where the bakery is steady."""
        return settled(self.bakery())

    def add(self, light, day):
        """Add a day behind."""
        if not is_number(light):
            raise NoNumber("the light is no number")
        if not is_day(day):
            raise NoDay("the day is none")
        if len(self.lights) >= MOST_DAYS:
            raise TooMany("there are as many days as may be")
        self.lights.append(light)
        self.days.append(day)
        self.deeds.append(None)

    def change(self, day, part, number=None):
        """Change a part of a day; told are the numbers of the row that are other ones now."""
        if not is_place(day, len(self.lights)):
            raise NoDay("there is no such day")
        if not is_part(part):
            raise NoPart("a day has no such part")
        if not is_worth(part, number):
            raise NoNumber("the part can't be set to this")
        self.deeds.append((day, part, self.worth_at(day, part)))
        return self.set_part(day, part, number)

    def back(self):
        """Take back the last deed that stands; told is what a change tells, of an adding nothing."""
        if not self.deeds:
            raise NoBack("there is no deed to take back")
        deed = self.deeds.pop()
        if deed is None:
            self.lights.pop()
            self.days.pop()
            return None
        day, part, number = deed
        return self.set_part(day, part, number)

    def twin(self):
        """Another ledger with the same bakery, and the same deeds to take back."""
        other = Ledger(self.bakery())
        other.deeds = list(self.deeds)
        return other

    def worth_at(self, day, part):
        """What a part of a day is now."""
        return self.lights[day] if part == LIGHT else self.days[day][PARTS.index(part)]

    def set_part(self, day, part, number):
        """Set a part of a day; told are the numbers of the row that are other ones now."""
        before = self.costs()
        if part == LIGHT:
            self.lights[day] = number
        else:
            self.days[day] = with_part(self.days[day], part, number)
        return others_now(before, self.costs())
