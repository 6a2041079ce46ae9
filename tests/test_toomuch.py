import random
import unittest

from bakeahead import toomuch
from bakeahead.errors import NoBakery, NoDays
from bakeahead.loaves import reach
from bakeahead.toomuch import too_much, wants_too_much
from helpers import (
    NO_DAYS, NO_WHOLE, SIXTY_FIGURES, TOP, Thing, all_plans, asked, check_refuses_no_bakeries, even_bakery,
    great_bakery, one_good, replaced, sets_of_days, some_bakery, some_days, three_days, tiny_bakery, two_goods,
)


def all_reaches(bakery):
    """The reach of each day of each good, with what is wanted on it."""
    told = []
    for good, (days, life) in enumerate(bakery[2]):
        told += [reach(bakery, good, given) + (day[0],) for given, day in enumerate(days)]
    return told


def is_too_much(bakery, reaches, dark, first, last):
    """Whether a stretch wants too much, reckoned as the document tells it."""
    lights, bound, goods = bakery
    wanted = sum(want for earliest, latest, want in reaches if first <= earliest and latest <= last)
    light_days = [day for day in range(first, last + 1) if day not in dark]
    if bound is None:
        return wanted > 0 and light_days == []
    return wanted > bound * len(light_days)


def all_stretches(bakery):
    days = range(len(bakery[0]))
    return [(first, last) for first in days for last in days[first:]]


def first_too_much(bakery, dark):
    reaches = all_reaches(bakery)
    found = [stretch for stretch in all_stretches(bakery) if is_too_much(bakery, reaches, dark, *stretch)]
    return min(found, default=None)


class Stretches(unittest.TestCase):
    def told(self, bakery, dark, stretch):
        with self.subTest(bakery=bakery, dark=dark):
            self.assertEqual(repr(asked(self, too_much, bakery, dark)), repr(stretch))

    def wants(self, bakery, dark, thing):
        with self.subTest(bakery=bakery, dark=dark, thing=thing):
            self.assertIs(asked(self, wants_too_much, bakery, dark, thing), True)

    def fine(self, bakery, dark, thing):
        with self.subTest(bakery=bakery, dark=dark, thing=thing):
            self.assertIs(asked(self, wants_too_much, bakery, dark, thing), False)


class ByHand(Stretches):
    def test_without_a_bound(self):
        # Day 0 may wait for day 1; day 1 is baked on day 0 or 1; day 2 wants nothing.
        self.told(three_days(), [], None)
        self.told(three_days(), [0], None)
        self.told(three_days(), [1], None)
        self.told(three_days(), [2], None)
        self.told(three_days(), [0, 2], None)
        self.told(three_days(), [0, 1], (0, 1))
        self.told(three_days(), [0, 1, 2], (0, 1))
        self.wants(three_days(), [0, 1, 2], (0, 2))
        self.fine(three_days(), [0, 1], (0, 2))
        self.fine(three_days(), [0, 1, 2], (1, 2))
        self.fine(three_days(), [0, 1, 2], (0, 0))

    def test_nothing_wanted(self):
        for bound in (None, 1):
            for goods in (1, 2):
                bakery = even_bakery(3, (0, 1, 1, None), bound=bound, goods=goods)
                for dark in sets_of_days(3):
                    self.told(bakery, dark, None)
                    for stretch in all_stretches(bakery):
                        self.fine(bakery, dark, stretch)

    def test_just_the_bound(self):
        for life in (0, 1, 2):
            self.told(even_bakery(3, (4, 1, 1, None), bound=4, life=life), [], None)
            self.told(even_bakery(3, (4, 1, 1, None), bound=3, life=life), [], (0, 0))
            self.told(even_bakery(3, (4, 1, 1, 1), bound=4, life=life), [], None)
            self.told(even_bakery(3, (4, 1, 1, 1), bound=3, life=life), [], (0, 2))

    def test_two_goods_share_the_bound(self):
        self.told(even_bakery(2, (4, 1, 1, None), bound=8, goods=2), [], None)
        self.told(even_bakery(2, (4, 1, 1, None), bound=7, goods=2), [], (0, 0))
        self.told(two_goods(), [], None)

    def test_kept_from_days_ahead(self):
        bakery = one_good([1, 1, 1], [(0, 1, 1, None), (0, 1, 1, None), (9, 1, 1, None)], bound=3)
        self.told(bakery, [], None)
        self.told(bakery, [0], (0, 2))
        self.told(bakery, [2], (0, 2))
        self.wants(bakery, [0], (0, 2))
        self.fine(bakery, [0], (1, 2))
        self.told(replaced(bakery, [2, 0, 1], 1), [], (1, 2))

    def test_the_first_as_tuples_are_sorted(self):
        bakery = even_bakery(3, (5, 1, 1, None), bound=4, life=0)
        self.told(bakery, [], (0, 0))
        self.told(replaced(bakery, [2, 0, 0, 0, 0], 4), [], (0, 1))
        self.told(replaced(bakery, [2, 0, 0, 0, 0], 3), [], (0, 2))
        self.told(replaced(bakery, [2, 0, 0, 0, 0], 2), [], (1, 1))
        self.told(replaced(bakery, [2, 0, 0, 0, 0], 0), [1, 2], (0, 1))

    def test_the_greatest_numbers(self):
        bakery = even_bakery(40, (TOP, TOP, TOP, None), light=TOP, bound=TOP, goods=1)
        self.told(bakery, [], None)
        self.told(bakery, [39], (0, 39))
        self.told(replaced(bakery, [1], TOP - 1), [], (0, 0))
        self.told(even_bakery(40, (TOP, 0, 0, 0), bound=TOP, goods=2), [], (0, 39))
        self.told(even_bakery(40, (TOP, 0, 0, 0), goods=2), list(range(39)), None)
        self.told(even_bakery(40, (TOP, 0, 0, 0), goods=2), list(range(40)), (0, 39))


class AgainstEachStretch(Stretches):
    def check(self, bakery, dark):
        self.told(bakery, dark, first_too_much(bakery, dark))
        reaches = all_reaches(bakery)
        for first, last in all_stretches(bakery):
            wanted = is_too_much(bakery, reaches, dark, first, last)
            with self.subTest(bakery=bakery, dark=dark, stretch=(first, last)):
                self.assertIs(wants_too_much(bakery, dark, (first, last)), wanted)

    def test_few_days_of_chance(self):
        chance = random.Random(71)
        told = {True: 0, False: 0}
        for _ in range(400):
            bakery = some_bakery(chance, chance.randint(1, 6))
            dark = some_days(chance, len(bakery[0]))
            self.check(bakery, dark)
            told[too_much(bakery, dark) is None] += 1
        self.assertGreater(min(told.values()), 50)

    def test_dark_days_none_and_all(self):
        chance = random.Random(72)
        for _ in range(60):
            bakery = some_bakery(chance, chance.randint(1, 5))
            self.check(bakery, [])
            self.check(bakery, list(range(len(bakery[0]))))

    def test_each_set_of_dark_days(self):
        chance = random.Random(73)
        for _ in range(15):
            bakery = some_bakery(chance, 4)
            for dark in sets_of_days(4):
                self.check(bakery, dark)

    def test_forty_days(self):
        chance = random.Random(74)
        for _ in range(3):
            bakery = some_bakery(chance, 40)
            self.told(bakery, [], first_too_much(bakery, []))
            great = replaced(great_bakery(chance, 40), [1], chance.randint(1, TOP))
            dark = some_days(chance, 40)
            self.told(great, dark, first_too_much(great, dark))


class AgainstAllPlans(unittest.TestCase):
    def test_none_just_where_a_plan_fits(self):
        chance = random.Random(75)
        told = {True: 0, False: 0}
        for _ in range(500):
            bakery = tiny_bakery(chance)
            dark = some_days(chance, len(bakery[0]))
            plans = [plan for plan in all_plans(bakery) if not any(row[0] in dark for row in plan)]
            with self.subTest(bakery=bakery, dark=dark):
                self.assertIs(too_much(bakery, dark) is None, plans != [])
            told[plans != []] += 1
        self.assertGreater(min(told.values()), 100)


class NoStretches(Stretches):
    def test_the_stretch_itself(self):
        self.wants(three_days(), [0, 1], (0, 1))

    def test_other_kinds(self):
        for thing in NO_WHOLE + [0, 1, "01", (0, 1, 1), (0,), ((0, 1),), [(0, 1)], {0: 1}, {0, 1}, Thing()]:
            self.fine(three_days(), [0, 1], thing)

    def test_a_list_in_the_tuples_place(self):
        self.fine(three_days(), [0, 1], [0, 1])

    def test_truths_in_a_days_place(self):
        for thing in [(False, 1), (0, True), (False, True), (False, False), (True, True)]:
            self.fine(three_days(), [0, 1], thing)

    def test_other_things_in_a_days_place(self):
        for thing in NO_WHOLE:
            self.fine(three_days(), [0, 1], (thing, 1))
            self.fine(three_days(), [0, 1], (0, thing))
            self.fine(three_days(), [0, 1], (thing, thing))

    def test_days_that_there_are_not(self):
        for thing in [(0, 3), (-1, 1), (-3, 1), (-3, -2), (0, -2), (3, 3), (0, SIXTY_FIGURES), (-SIXTY_FIGURES, 1)]:
            self.fine(three_days(), [0, 1, 2], thing)

    def test_a_last_day_below_the_first(self):
        self.fine(three_days(), [0, 1, 2], (1, 0))
        self.fine(three_days(), [0, 1, 2], (2, 0))
        self.fine(even_bakery(3, (9, 1, 1, None), bound=1, life=0), [], (2, 1))


class DarkDays(unittest.TestCase):
    def test_no_days(self):
        for dark in NO_DAYS:
            for bakery in (three_days(), even_bakery(3, (1, 1, 1, 1), bound=2, goods=2)):
                before = repr((bakery, dark))
                with self.subTest(dark=dark):
                    with self.assertRaises(NoDays):
                        too_much(bakery, dark)
                    for thing in [(0, 1), None, "thing"]:
                        with self.assertRaises(NoDays):
                            wants_too_much(bakery, dark, thing)
                    self.assertEqual(repr((bakery, dark)), before)

    def test_all_rising_lists_of_days_are_good(self):
        for dark in sets_of_days(3):
            self.assertIn(too_much(three_days(), dark), [None, (0, 1)])

    def test_things_of_other_kinds_in_a_days_place(self):
        for thing in NO_WHOLE:
            for dark in ([thing], [0, thing], [thing, 2], [0, thing, 2]):
                with self.assertRaises(NoDays):
                    too_much(three_days(), dark)

    def test_no_bakery_ahead_of_all_else(self):
        for dark in ([], [0], None, [True]):
            check_refuses_no_bakeries(self, too_much, dark)
            check_refuses_no_bakeries(self, wants_too_much, dark, (0, 1))

    def test_a_refusal_leaves_nothing_behind(self):
        for dark in NO_DAYS:
            with self.assertRaises(NoDays):
                too_much(three_days(), dark)
            self.assertEqual(too_much(three_days(), [0, 1]), (0, 1))
        with self.assertRaises(NoBakery):
            too_much(None, [])
        self.assertIsNone(too_much(three_days(), []))

    def test_changed_in_place_and_asked_again(self):
        bakery, dark = three_days(), [0]
        self.assertIsNone(too_much(bakery, dark))
        dark.append(1)
        self.assertEqual(too_much(bakery, dark), (0, 1))
        self.assertIs(wants_too_much(bakery, dark, (0, 1)), True)
        bakery[2][0][0][1] = (0, 6, 2, 5)
        self.assertIsNone(too_much(bakery, dark))
        self.assertIs(wants_too_much(bakery, dark, (0, 1)), False)

    def test_both_are_written_in_toomuch(self):
        for name in ("too_much", "wants_too_much"):
            self.assertEqual(getattr(toomuch, name).__module__, "bakeahead.toomuch")


if __name__ == "__main__":
    unittest.main()
