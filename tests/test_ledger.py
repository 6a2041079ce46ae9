import copy
import random
import unittest

from bakeahead import ledger as module
from bakeahead.cheapest import cheapest
from bakeahead.errors import BakeError, NoBack, NoDay, NoNumber, NoPart, NotSteady, TooMany
from bakeahead.ledger import Ledger
from bakeahead.prices import prices_of
from bakeahead.rows import least_row
from bakeahead.settled import settled
from bakeahead.steady import is_steady
from bakeahead.texts import read_bakery, show_bakery
from helpers import (
    NO_NUMBER, SIXTY_FIGURES, TOP, Thing, check_refuses_no_bakeries, check_refuses_not_plain, even_bakery,
    great_bakery, lists_within, one_good, random_bakery, random_day, random_steady, replaced, three_days, two_goods,
)

PARTS = ["light", "want", "loaf", "keep", "fine"]
NO_PARTS = [
    None, True, False, 0, 1, "", " ", "Light", "LIGHT", "lights", "ligh", " light", "light ", "want\n", "life", "bound",
    "day", "fines", "wantloaf", "want loaf", b"light", ["light"], ("light",), {"light": 1}, {"light"}, object(),
    Thing(), [], (), {}, len, str,
]
NO_DAY_NUMBERS = NO_NUMBER + [3, 4, 40, -3]
NO_DAYS = [
    None, True, 0, "", "day", [], (), [1, 1, 1, 1], [1, 1, 1, None], (1, 1, 1), (1, 1, 1, 1, 1), (True, 1, 1, 1),
    (1, False, 1, 1), (1, 1, True, 1), (1, 1, 1, True), (1, 1, 1, False), (None, 1, 1, 1), (1, None, 1, 1),
    (1, 1, None, 1), (-1, 1, 1, 1), (1, 1, 1, -1), (TOP + 1, 1, 1, 1), (1, 1, 1, TOP + 1), (1, 1, 1, "1"),
    ((1, 1, 1, 1),), (1, 1, 1, [1]), (1, 1, 1, (None,)), {0: 1}, Thing(), SIXTY_FIGURES,
]


def row_differs(before, after):
    """The numbers of first days whose least costs are other ones."""
    old, new = least_row(before), least_row(after)
    return [many for many in range(len(old)) if old[many] != new[many]]


def changed(bakery, day, part, number):
    """The bakery with another part of a day."""
    if part == "light":
        return replaced(bakery, [0, day], number)
    return replaced(bakery, [2, 0, 0, day, PARTS.index(part) - 1], number)


def added(bakery, light, day):
    lights, bound, goods = bakery
    return (lights + [light], bound, [(goods[0][0] + [day], goods[0][1])])


class Ledgers(unittest.TestCase):
    def holds(self, ledger, bakery):
        """All that the ledger tells is what is told of the bakery, anew each time."""
        asks = [ledger.bakery, ledger.costs, ledger.plan, ledger.prices]
        wanted = [bakery, least_row(bakery), cheapest(bakery), prices_of(bakery)]
        if is_steady(bakery):
            asks.append(ledger.settled)
            wanted.append(settled(bakery))
        else:
            with self.assertRaises(NotSteady):
                ledger.settled()
        for _ in range(2):
            for ask, told in zip(asks, wanted):
                answer = ask()
                self.assertEqual(repr(answer), repr(told))
                for part in lists_within(answer):
                    part.append("spoilt")
        self.assertEqual(repr(len(ledger)), repr(len(bakery[0])))
        self.assertEqual(str(ledger), show_bakery(bakery))
        self.assertIs(type(str(ledger)), str)

    def refuses(self, error, ledger, ask, *handed, **named):
        """The asking is refused so, and nothing is changed by it, the deeds to take back neither."""
        before = ledger.twin()
        told = repr((handed, named))
        with self.assertRaises(error) as caught:
            ask(*handed, **named)
        self.assertIs(type(caught.exception), error)
        self.assertEqual(repr((handed, named)), told)
        self.assertEqual(repr(ledger.bakery()), repr(before.bakery()))


class Making(Ledgers):
    def test_a_plain_bakery(self):
        self.holds(Ledger(three_days()), three_days())
        self.holds(Ledger(even_bakery(40, (TOP, TOP, TOP, TOP), light=TOP, life=40)),
                   even_bakery(40, (TOP, TOP, TOP, TOP), light=TOP, life=40))

    def test_of_chance(self):
        chance = random.Random(91)
        for many in (1, 2, 3, 8, 20, 40):
            for bakery in (random_bakery(chance, many), random_steady(chance, many), great_bakery(chance, many)):
                self.holds(Ledger(bakery), bakery)

    def test_no_bakery_then_not_plain(self):
        check_refuses_no_bakeries(self, Ledger)
        check_refuses_not_plain(self, Ledger)
        with self.assertRaises(BakeError):
            Ledger(replaced(two_goods(), [2, 0, 0, 1, 0], True))

    def test_what_was_handed_in_can_be_changed_behind(self):
        bakery = three_days()
        ledger = Ledger(bakery)
        self.assertEqual(repr(bakery), repr(three_days()))
        bakery[0][0] = 99
        bakery[2][0][0][0] = (9, 9, 9, 9)
        bakery[2][0][0].pop()
        bakery[2].clear()
        self.holds(ledger, three_days())

    def test_deeds_leave_what_was_handed_in_as_it_was(self):
        bakery = three_days()
        ledger = Ledger(bakery)
        ledger.change(0, "light", 5)
        ledger.change(0, "want", 5)
        ledger.add(1, (1, 1, 1, None))
        self.assertEqual(repr(bakery), repr(three_days()))

    def test_what_was_told_stays_as_it_was(self):
        ledger = Ledger(three_days())
        told = [ledger.bakery(), ledger.costs(), ledger.plan(), ledger.prices()]
        before = copy.deepcopy(told)
        ledger.change(0, "want", 9)
        ledger.add(4, (1, 1, 1, 1))
        ledger.back()
        self.assertEqual(repr(told), repr(before))

    def test_none_has_deeds_to_take_back(self):
        ledger = Ledger(three_days())
        for _ in range(2):
            self.refuses(NoBack, ledger, ledger.back)
        self.holds(ledger, three_days())


class Adding(Ledgers):
    def test_it_tells_nothing(self):
        ledger = Ledger(three_days())
        self.assertIsNone(ledger.add(7, (3, 2, 1, None)))
        self.holds(ledger, added(three_days(), 7, (3, 2, 1, None)))

    def test_by_names(self):
        ledger = Ledger(three_days())
        self.assertIsNone(ledger.add(light=7, day=(3, 2, 1, None)))
        self.assertIsNone(ledger.add(8, day=(0, 0, 0, 0)))
        self.assertIsNone(ledger.add(day=(1, 1, 1, 1), light=TOP))
        bakery = added(added(three_days(), 7, (3, 2, 1, None)), 8, (0, 0, 0, 0))
        self.holds(ledger, added(bakery, TOP, (1, 1, 1, 1)))

    def test_to_forty_days(self):
        chance = random.Random(92)
        bakery = random_bakery(chance, 1)
        ledger = Ledger(bakery)
        while len(ledger) < 40:
            light, day = chance.randint(0, 9), random_day(chance, 9)
            self.assertIsNone(ledger.add(light, day))
            bakery = added(bakery, light, day)
            self.assertEqual(ledger.costs(), least_row(bakery))
        self.holds(ledger, bakery)
        self.refuses(TooMany, ledger, ledger.add, 1, (1, 1, 1, 1))
        self.assertIsNone(ledger.back())
        self.assertIsNone(ledger.add(1, (1, 1, 1, 1)))
        self.refuses(TooMany, ledger, ledger.add, 1, (1, 1, 1, 1))

    def test_a_light_that_is_no_number(self):
        for ledger in (Ledger(three_days()), Ledger(even_bakery(40, (1, 1, 1, 1)))):
            for light in NO_NUMBER:
                for day in ((1, 1, 1, 1), None, [1, 1, 1, 1]):
                    self.refuses(NoNumber, ledger, ledger.add, light, day)
                self.refuses(NoNumber, ledger, ledger.add, light=light, day=(1, 1, 1, 1))

    def test_a_day_that_is_none(self):
        for ledger in (Ledger(three_days()), Ledger(even_bakery(40, (1, 1, 1, 1)))):
            for day in NO_DAYS + NO_NUMBER:
                self.refuses(NoDay, ledger, ledger.add, 1, day)

    def test_too_many_goes_behind_these(self):
        ledger = Ledger(even_bakery(40, (1, 1, 1, 1)))
        self.refuses(TooMany, ledger, ledger.add, 0, (0, 0, 0, None))
        self.refuses(NoNumber, ledger, ledger.add, None, None)
        self.refuses(NoDay, ledger, ledger.add, 0, None)
        self.refuses(NoBack, ledger, ledger.back)

    def test_a_refused_adding_is_no_deed(self):
        ledger = Ledger(three_days())
        ledger.add(1, (1, 1, 1, 1))
        for light, day in [(True, (1, 1, 1, 1)), (1, [1, 1, 1, 1])]:
            with self.assertRaises(BakeError):
                ledger.add(light, day)
        self.assertIsNone(ledger.back())
        self.refuses(NoBack, ledger, ledger.back)
        self.holds(ledger, three_days())


class Changing(Ledgers):
    def change(self, ledger, day, part, *number):
        """A change, by its places, with what it tells against the rows ahead and behind; what it led to."""
        before = ledger.bakery()
        told = ledger.change(day, part, *number)
        after = changed(before, day, part, number[0] if number else None)
        self.assertEqual(repr(told), repr(row_differs(before, after)))
        self.assertEqual(told, sorted(set(told)))
        self.assertTrue(all(many > day for many in told))
        self.assertEqual(repr(ledger.bakery()), repr(after))
        return told

    def test_by_hand(self):
        ledger = Ledger(three_days())
        self.assertEqual(ledger.costs(), [0, 20, 44, 44])
        self.assertEqual(self.change(ledger, 0, "light", 11), [1, 2, 3])
        self.assertEqual(self.change(ledger, 1, "want", 5), [2, 3])
        self.assertEqual(self.change(ledger, 2, "want", 1), [3])
        self.assertEqual(self.change(ledger, 2, "loaf", 8), [])
        self.holds(ledger, one_good([11, 20, 30], [(2, 5, 1, 3), (5, 6, 2, None), (1, 8, 4, 9)], life=1))

    def test_each_part(self):
        for part in PARTS:
            for day in range(3):
                for number in (0, 1, 7, TOP):
                    ledger = Ledger(three_days())
                    self.change(ledger, day, part, number)
                    self.holds(ledger, changed(three_days(), day, part, number))

    def test_a_fine_of_none(self):
        for day in range(3):
            for handed in [(day, "fine"), (day, "fine", None)]:
                ledger = Ledger(three_days())
                ledger.change(*handed)
                self.holds(ledger, changed(three_days(), day, "fine", None))
        ledger = Ledger(one_good([50, 10], [(1, 20, 0, 3), (0, 1, 0, None)]))
        self.assertEqual(self.change(ledger, 0, "fine"), [2])
        self.assertEqual(ledger.costs(), [0, 70, 70])

    def test_by_names(self):
        ledger = Ledger(three_days())
        self.assertEqual(ledger.change(day=0, part="light", number=11), [1, 2, 3])
        self.assertEqual(ledger.change(0, part="fine"), [])
        self.assertEqual(ledger.change(part="fine", day=1), [])
        self.assertEqual(ledger.change(0, "want", number=0), [1, 2, 3])
        self.holds(ledger, one_good([11, 20, 30], [(0, 5, 1, None), (4, 6, 2, None), (0, 7, 4, 9)], life=1))

    def test_what_stands_already_is_a_deed(self):
        ledger = Ledger(three_days())
        ledger.add(9, (1, 1, 1, 1))
        for day in range(3):
            for part, number in zip(PARTS, (three_days()[0][day],) + three_days()[2][0][0][day]):
                self.assertEqual(self.change(ledger, day, part, number), [])
        for _ in range(15):
            self.assertEqual(repr(ledger.back()), "[]")
            self.assertEqual(len(ledger), 4)
        self.assertIsNone(ledger.back())
        self.refuses(NoBack, ledger, ledger.back)

    def test_of_chance(self):
        chance = random.Random(93)
        for _ in range(60):
            ledger = Ledger(random_bakery(chance, chance.randint(1, 12)))
            for _ in range(8):
                part = chance.choice(PARTS)
                number = chance.choice([None, 3]) if part == "fine" else chance.choice([0, 1, 5, 30, TOP])
                self.change(ledger, chance.randrange(len(ledger)), part, number)
            self.holds(ledger, ledger.bakery())

    def test_what_is_told_is_the_askers_own(self):
        ledger = Ledger(three_days())
        told = ledger.change(0, "light", 11)
        told.append("spoilt")
        back = ledger.back()
        self.assertEqual(back, [1, 2, 3])
        back.append("spoilt")
        self.assertEqual(ledger.change(0, "light", 11), [1, 2, 3])

    def test_no_such_day(self):
        ledger = Ledger(three_days())
        for day in NO_DAY_NUMBERS:
            for part, number in [("light", 1), ("fine", None), (None, None), ("x", "x")]:
                self.refuses(NoDay, ledger, ledger.change, day, part, number)
        self.refuses(NoDay, ledger, ledger.change, day=True, part="x")
        self.refuses(NoBack, ledger, ledger.back)

    def test_no_such_part(self):
        ledger = Ledger(three_days())
        for part in NO_PARTS:
            for number in (1, None, "x", True):
                self.refuses(NoPart, ledger, ledger.change, 1, part, number)
            self.refuses(NoPart, ledger, ledger.change, 1, part)
        self.refuses(NoBack, ledger, ledger.back)

    def test_no_number(self):
        ledger = Ledger(three_days())
        for part in PARTS:
            for number in NO_NUMBER:
                if part != "fine" or number is not None:
                    self.refuses(NoNumber, ledger, ledger.change, 1, part, number)
        for part in PARTS[:4]:
            self.refuses(NoNumber, ledger, ledger.change, 1, part)
        self.refuses(NoBack, ledger, ledger.back)

    def test_a_day_that_was_added_and_taken_back(self):
        ledger = Ledger(three_days())
        ledger.add(1, (1, 1, 1, 1))
        self.change(ledger, 3, "want", 4)
        ledger.back()
        ledger.back()
        self.refuses(NoDay, ledger, ledger.change, 3, "want", 4)


class TakingBack(Ledgers):
    def test_a_change(self):
        ledger = Ledger(three_days())
        ledger.change(0, "light", 11)
        self.assertEqual(repr(ledger.back()), "[1, 2, 3]")
        self.holds(ledger, three_days())
        self.refuses(NoBack, ledger, ledger.back)

    def test_an_adding(self):
        ledger = Ledger(three_days())
        ledger.add(1, (1, 1, 1, 1))
        self.assertIsNone(ledger.back())
        self.holds(ledger, three_days())
        self.refuses(NoBack, ledger, ledger.back)

    def test_the_last_one_that_stands(self):
        ledger = Ledger(three_days())
        ledger.change(0, "want", 5)
        ledger.change(0, "want", 6)
        ledger.back()
        self.assertEqual(ledger.bakery()[2][0][0][0], (5, 5, 1, 3))
        ledger.change(0, "want", 7)
        ledger.back()
        self.assertEqual(ledger.bakery()[2][0][0][0], (5, 5, 1, 3))
        ledger.back()
        self.holds(ledger, three_days())
        self.refuses(NoBack, ledger, ledger.back)

    def test_deeds_of_chance(self):
        chance = random.Random(94)
        for _ in range(25):
            bakery = random_bakery(chance, chance.randint(1, 6))
            ledger, stack = Ledger(bakery), []
            for _ in range(25):
                deed = chance.choice(["add", "change", "change", "back"])
                if deed == "add" and len(ledger) < 12:
                    light, day = chance.randint(0, 9), random_day(chance, 9)
                    stack.append((bakery, True))
                    bakery = added(bakery, light, day)
                    self.assertIsNone(ledger.add(light, day))
                elif deed == "change":
                    day, part = chance.randrange(len(ledger)), chance.choice(PARTS)
                    number = chance.choice([0, 1, 4, 20] + [None] * (part == "fine"))
                    stack.append((bakery, False))
                    before, bakery = bakery, changed(bakery, day, part, number)
                    self.assertEqual(ledger.change(day, part, number), row_differs(before, bakery))
                elif deed == "back" and stack:
                    after, (bakery, adding) = bakery, stack.pop()
                    told = None if adding else row_differs(after, bakery)
                    self.assertEqual(repr(ledger.back()), repr(told))
                self.assertEqual(repr(ledger.bakery()), repr(bakery))
            self.holds(ledger, bakery)
            while stack:
                bakery, adding = stack.pop()
                ledger.back()
                self.assertEqual(repr(ledger.bakery()), repr(bakery))
            self.refuses(NoBack, ledger, ledger.back)


class Twins(Ledgers):
    def test_the_same_bakery_and_deeds(self):
        ledger = Ledger(three_days())
        ledger.change(0, "want", 5)
        ledger.add(1, (1, 1, 1, 1))
        twin = ledger.twin()
        self.assertIs(type(twin), Ledger)
        self.assertIsNot(twin, ledger)
        self.assertEqual(twin, ledger)
        self.holds(twin, ledger.bakery())
        self.assertIsNone(twin.back())
        self.assertEqual(twin.back(), [1, 2, 3])
        self.holds(twin, three_days())
        self.refuses(NoBack, twin, twin.back)
        self.assertEqual(len(ledger), 4)

    def test_neithers_deeds_change_the_other(self):
        ledger = Ledger(three_days())
        ledger.change(0, "want", 5)
        now = ledger.bakery()
        twin = ledger.twin()
        twin.change(1, "light", 1)
        twin.add(1, (1, 1, 1, 1))
        self.holds(ledger, now)
        ledger.back()
        self.refuses(NoBack, ledger, ledger.back)
        self.holds(ledger, three_days())
        self.holds(twin, added(changed(now, 1, "light", 1), 1, (1, 1, 1, 1)))
        ledger.change(2, "want", 9)
        for _ in range(3):
            twin.back()
        self.holds(twin, three_days())
        self.refuses(NoBack, twin, twin.back)
        self.holds(ledger, changed(three_days(), 2, "want", 9))

    def test_a_twin_of_a_twin(self):
        ledger = Ledger(three_days())
        ledger.change(0, "want", 5)
        last = ledger.twin().twin()
        last.back()
        self.assertEqual(ledger.bakery()[2][0][0][0][0], 5)
        self.holds(last, three_days())


class Alike(Ledgers):
    def alike(self, one, other, truth):
        self.assertIs(one == other, truth)
        self.assertIs(other == one, truth)
        self.assertIs(one != other, not truth)

    def test_like_bakeries_by_other_deeds(self):
        straight = Ledger(three_days())
        bent = Ledger(one_good([10, 21], [(2, 5, 1, 3), (4, 6, 2, None)], life=1))
        self.alike(straight, bent, False)
        bent.add(30, (0, 7, 4, 9))
        bent.change(1, "light", 20)
        self.alike(straight, bent, True)
        self.alike(straight, straight, True)
        self.alike(straight, Ledger(three_days()), True)
        bent.back()
        self.alike(straight, bent, False)
        straight.change(1, "light", 21)
        self.alike(straight, bent, True)

    def test_unlike_ones(self):
        for part in PARTS:
            for day in range(3):
                self.alike(Ledger(three_days()), Ledger(changed(three_days(), day, part, 77)), False)
        for life in (None, 0, 2, 40):
            self.alike(Ledger(three_days()), Ledger(replaced(three_days(), [2, 0, 1], life)), False)
        self.alike(Ledger(three_days()), Ledger(added(three_days(), 1, (0, 0, 0, None))), False)

    def test_no_fine_and_a_fine_of_nought(self):
        bakery = changed(three_days(), 0, "fine", 0)
        self.alike(Ledger(bakery), Ledger(changed(bakery, 0, "fine", None)), False)

    def test_other_things(self):
        for thing in [None, 0, 3, "", show_bakery(three_days()), three_days(), [], (), {}, Thing(), object(), Ledger]:
            self.alike(Ledger(three_days()), thing, False)


class Texts(Ledgers):
    def test_str_is_the_bakerys_text(self):
        ledger = Ledger(three_days())
        self.assertEqual(str(ledger), "oven -\nlights 10 20 30\ngood 1\n2 5 1 3\n4 6 2 -\n0 7 4 9")
        ledger.change(0, "fine")
        self.assertEqual(str(ledger), "oven -\nlights 10 20 30\ngood 1\n2 5 1 -\n4 6 2 -\n0 7 4 9")
        self.assertEqual(repr(read_bakery(str(ledger))), repr(ledger.bakery()))

    def test_len(self):
        for many in (1, 2, 40):
            self.assertEqual(len(Ledger(even_bakery(many, (0, 0, 0, 0)))), many)


class SettledDays(Ledgers):
    def test_as_the_bakery_becomes_steady_and_not(self):
        ledger = Ledger(even_bakery(3, (1, 1, 5, None), light=2))
        self.assertEqual(repr(ledger.settled()), "(2, [0, 1])")
        ledger.change(2, "fine", 0)
        self.refuses(NotSteady, ledger, ledger.settled)
        ledger.back()
        self.assertEqual(repr(ledger.settled()), "(2, [0, 1])")
        ledger.change(1, "loaf", 7)
        self.refuses(NotSteady, ledger, ledger.settled)
        ledger.change(1, "loaf", 6)
        self.holds(ledger, ledger.bakery())


class Written(unittest.TestCase):
    def test_each_method_stands_in_the_class_itself(self):
        names = ["add", "change", "back", "bakery", "costs", "plan", "prices", "settled", "twin"]
        for name in names + ["__init__", "__len__", "__str__", "__eq__"]:
            self.assertIn(name, vars(Ledger))
        self.assertEqual(module.Ledger.__module__, "bakeahead.ledger")
        self.assertEqual(Ledger.__bases__, (object,))


if __name__ == "__main__":
    unittest.main()
