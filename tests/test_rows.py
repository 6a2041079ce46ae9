import random
import unittest

from bakeahead import rows
from bakeahead.errors import NotPlain
from bakeahead.plans import cost_of
from bakeahead.rows import least_row
from helpers import (
    TOP, asked, check_refuses_no_bakeries, check_refuses_not_plain, even_bakery, first_days, least_by_all_sets,
    one_good, random_bakery, random_plan, replaced, three_days,
)


def row_by_all_sets(bakery):
    return [0] + [least_by_all_sets(first_days(bakery, many)) for many in range(1, len(bakery[0]) + 1)]


class ByHand(unittest.TestCase):
    def told(self, bakery, row):
        self.assertEqual(repr(asked(self, least_row, bakery)), repr(row))

    def test_three_days(self):
        self.told(three_days(), [0, 20, 44, 44])

    def test_nothing_wanted(self):
        self.told(even_bakery(4, (0, 5, 5, None), light=9), [0, 0, 0, 0, 0])

    def test_one_day(self):
        self.told(one_good([7], [(3, 5, 1, None)], life=0), [0, 22])
        self.told(one_good([7], [(0, 5, 1, 1)]), [0, 0])

    def test_days_without_a_want_cost_nothing(self):
        wants = [0, 2, 0, 0, 1]
        self.told(one_good([9] * 5, [(want, 1, 100, None) for want in wants]), [0, 0, 11, 11, 11, 21])

    def test_keeping_against_lighting(self):
        self.told(even_bakery(4, (1, 2, 3, None), light=5), [0, 7, 12, 19, 24])
        self.told(even_bakery(4, (1, 2, 0, None), light=5), [0, 7, 9, 11, 13])

    def test_lives(self):
        for life, wanted in [(0, [0, 7, 14, 21, 28]), (1, [0, 7, 9, 16, 18]), (2, [0, 7, 9, 11, 18])]:
            self.told(even_bakery(4, (1, 2, 0, None), light=5, life=life), wanted)

    def test_waiting_makes_a_later_number_less(self):
        self.told(one_good([50, 10], [(1, 20, 0, 3), (0, 1, 0, None)]), [0, 70, 14])
        self.told(one_good([50, 10, 0], [(1, 20, 0, 3), (1, 1, 0, 2), (0, 0, 0, None)]), [0, 70, 15, 7])

    def test_no_waiting_over_a_night_without_a_fine(self):
        self.told(one_good([50, 10], [(1, 20, 0, None), (0, 1, 0, 5)]), [0, 70, 70])

    def test_a_cheaper_day_behind_is_no_use_to_fewer_days(self):
        self.told(one_good([9, 9, 0], [(1, 9, 9, 0), (1, 9, 9, 0), (1, 0, 0, 0)]), [0, 18, 27, 0])

    def test_a_lit_day_may_bake_for_later_days_alone(self):
        # Loaves of day 0 are free, and keep two nights: day 1 is lit for day 3 alone.
        days = [(0, 0, 0, None), (1, 10, 0, None), (1, 99, 0, None), (1, 99, 0, None)]
        self.told(one_good([1, 1, 50, 50], days, life=2), [0, 0, 1, 1, 12])


class AgainstAllSets(unittest.TestCase):
    def test_few_days_of_chance(self):
        chance = random.Random(9)
        falls = 0
        for _ in range(400):
            bakery = random_bakery(chance, chance.randint(1, 6), fines=chance.random() < 0.7)
            row = asked(self, least_row, bakery)
            self.assertEqual(row, row_by_all_sets(bakery))
            falls += row != sorted(row)
        self.assertGreater(falls, 10)

    def test_each_number_is_the_last_of_just_these_days(self):
        chance = random.Random(10)
        for many in (1, 3, 9, 40):
            bakery = random_bakery(chance, many)
            row = least_row(bakery)
            self.assertEqual(len(row), many + 1)
            for first in range(1, many + 1):
                self.assertEqual(least_row(first_days(bakery, first)), row[:first + 1])

    def test_without_fines_it_never_falls(self):
        chance = random.Random(11)
        for _ in range(50):
            row = least_row(random_bakery(chance, chance.randint(1, 20), fines=False))
            self.assertEqual(row, sorted(row))

    def test_no_plan_costs_less(self):
        chance = random.Random(12)
        for _ in range(200):
            bakery = random_bakery(chance, chance.randint(1, 12))
            self.assertLessEqual(least_row(bakery)[-1], cost_of(bakery, random_plan(chance, bakery)))


class FortyDays(unittest.TestCase):
    def test_blocks_of_days_apart_from_one_another(self):
        # Nothing is worth keeping, or may wait, over the last night of a block; so each block stands for itself.
        chance = random.Random(13)
        for _ in range(10):
            blocks = [random_bakery(chance, 5) for _ in range(8)]
            lights, days, least = [], [], 0
            for block in blocks:
                shut = replaced(replaced(block, [2, 0, 0, 4, 2], TOP), [2, 0, 0, 4, 3], None)
                alone = replaced(shut, [2, 0, 1], 3)
                lights += alone[0]
                days += alone[2][0][0]
                least += least_by_all_sets(alone)
                row = least_row(one_good(lights, days, life=3))
                self.assertEqual(row[-1], least)
            self.assertEqual(len(row), 41)

    def test_the_greatest_numbers_each_day_for_itself(self):
        row = least_row(even_bakery(40, (TOP, TOP, TOP, TOP), light=TOP))
        self.assertEqual(row, [many * (TOP + TOP * TOP) for many in range(41)])

    def test_the_greatest_numbers_all_on_one_day(self):
        for keep, fine in [(0, None), (0, 0), (TOP, 0), (0, TOP)]:
            row = least_row(even_bakery(40, (TOP, TOP, keep, fine), light=TOP))
            self.assertEqual(row, [0] + [TOP + many * TOP * TOP for many in range(1, 41)])

    def test_the_greatest_numbers_by_lives(self):
        for life in (0, 1, 3, 6, 39, 40):
            row = least_row(even_bakery(40, (TOP, TOP, 0, None), light=TOP, life=life))
            ovens = [-(-many // (life + 1)) for many in range(41)]
            self.assertEqual(row, [ovens[many] * TOP + many * TOP * TOP for many in range(41)])

    def test_all_wait_for_the_last_day(self):
        days = [(TOP, TOP, TOP, 0)] * 39 + [(0, 0, TOP, None)]
        row = least_row(one_good([TOP] * 39 + [1], days))
        self.assertEqual(row[39:], [TOP + 39 * TOP * TOP, 1])


class Refusals(unittest.TestCase):
    def test_no_bakery_ahead_of_all_else(self):
        check_refuses_no_bakeries(self, least_row)

    def test_not_plain(self):
        check_refuses_not_plain(self, least_row)

    def test_a_refusal_leaves_nothing_behind(self):
        bakery = three_days()
        with self.assertRaises(NotPlain):
            least_row(replaced(bakery, [1], 5))
        self.assertEqual(least_row(bakery), [0, 20, 44, 44])

    def test_changed_in_place_and_asked_again(self):
        bakery = three_days()
        told = least_row(bakery)
        bakery[0][0] = 0
        self.assertEqual(least_row(bakery), [0, 10, 34, 34])
        self.assertEqual(told, [0, 20, 44, 44])

    def test_it_is_written_in_rows(self):
        self.assertEqual(rows.least_row.__module__, "bakeahead.rows")


if __name__ == "__main__":
    unittest.main()
