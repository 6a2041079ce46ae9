import random
import unittest

from bakeahead import replays
from bakeahead.plans import cost_of, lit_days
from bakeahead.replays import replayed
from helpers import (
    TOP, asked, check_refuses_no_bakeries, even_bakery, is_lists_own, one_good, random_bakery, random_plan, three_days,
    two_goods, two_goods_plan,
)


class ByHand(unittest.TestCase):
    def told(self, bakery, plan, days):
        self.assertEqual(repr(asked(self, replayed, bakery, plan)), repr(days))

    def test_given_on_the_same_day(self):
        self.told(
            three_days(), [(0, 0, 0, 2), (1, 0, 1, 4)],
            [
                (True, [2], [2], [0], [0], 20),
                (True, [4], [4], [0], [0], 44),
                (False, [0], [0], [0], [0], 0),
            ],
        )

    def test_kept_over_several_nights(self):
        bakery = one_good([50, 60, 70, 80], [(1, 10, 1, None), (0, 9, 2, None), (0, 9, 3, None), (5, 9, 4, None)])
        self.told(
            bakery, [(0, 0, 0, 1), (0, 0, 3, 4), (2, 0, 3, 1)],
            [
                (True, [5], [1], [4], [0], 50 + 50 + 4),
                (False, [0], [0], [4], [0], 8),
                (True, [1], [0], [5], [0], 70 + 9 + 15),
                (False, [0], [5], [0], [0], 0),
            ],
        )

    def test_waiting_over_several_nights(self):
        bakery = one_good([50, 60, 70, 80], [(3, 10, 1, 2), (4, 9, 2, 3), (0, 8, 3, 4), (1, 7, 4, None)], life=0)
        self.told(
            bakery, [(0, 0, 0, 1), (3, 0, 0, 2), (3, 0, 1, 4), (3, 0, 3, 1)],
            [
                (True, [1], [1], [0], [2], 50 + 10 + 4),
                (False, [0], [0], [0], [6], 18),
                (False, [0], [0], [0], [6], 24),
                (True, [7], [7], [0], [0], 80 + 49),
            ],
        )

    def test_two_goods_kept_and_waiting(self):
        self.told(
            two_goods(), two_goods_plan(),
            [
                (True, [5, 3], [2, 1], [3, 2], [0, 0], 45),
                (True, [3, 0], [3, 0], [3, 2], [1, 0], 58),
                (True, [1, 2], [1, 2], [3, 2], [0, 3], 84),
                (True, [0, 3], [3, 5], [0, 0], [0, 0], 67),
            ],
        )

    def test_only_the_second_good_is_baked(self):
        bakery = ([5, 6], None, [([(0, 1, 1, None)] * 2, 0), ([(0, 2, 3, None), (2, 9, 9, None)], None)])
        self.told(
            bakery, [(0, 1, 1, 2)],
            [(True, [0, 2], [0, 0], [0, 2], [0, 0], 5 + 4 + 6), (False, [0, 0], [0, 2], [0, 0], [0, 0], 0)],
        )

    def test_nothing_wanted(self):
        day = (False, [0, 0], [0, 0], [0, 0], [0, 0], 0)
        self.told(even_bakery(3, (0, 1, 1, None), light=5, goods=2), [], [day] * 3)

    def test_a_lit_day_that_costs_nothing(self):
        self.told(even_bakery(1, (1, 0, 0, None), light=0), [(0, 0, 0, 1)], [(True, [1], [1], [0], [0], 0)])

    def test_forty_days_of_the_greatest_numbers(self):
        bakery = even_bakery(40, (TOP, TOP, TOP, TOP), light=TOP)
        told = replayed(bakery, [(39, 0, day, TOP) for day in range(40)])
        self.assertEqual(told[0], (False, [0], [0], [0], [TOP], TOP * TOP))
        self.assertEqual(told[38], (False, [0], [0], [0], [39 * TOP], 39 * TOP * TOP))
        self.assertEqual(told[39], (True, [40 * TOP], [40 * TOP], [0], [0], TOP + 40 * TOP * TOP))


class OfChance(unittest.TestCase):
    def setUp(self):
        chance = random.Random(8)
        self.cases = []
        for many in (1, 2, 4, 7) * 12:
            bakery = random_bakery(chance, many, goods=chance.choice([1, 2]))
            self.cases.append((bakery, random_plan(chance, bakery)))

    def test_the_costs_come_to_that_of_the_plan(self):
        for bakery, plan in self.cases:
            self.assertEqual(sum(day[5] for day in replayed(bakery, plan)), cost_of(bakery, plan))

    def test_lit_just_on_lit_days(self):
        for bakery, plan in self.cases:
            told = replayed(bakery, plan)
            self.assertEqual([day for day, row in enumerate(told) if row[0] is True], lit_days(plan))
            self.assertTrue(all(isinstance(row[0], bool) for row in told))

    def test_loaves_go_from_night_to_night(self):
        # What is kept from the night before and baked is given or kept; what was waited for and wanted is given or
        # waits: with early and late loaves given on one day, the two balances hold together.
        for bakery, plan in self.cases:
            self.check_balance(bakery, replayed(bakery, plan))

    def check_balance(self, bakery, told):
        nothing = [0] * len(bakery[2])
        kept, waiting = nothing, nothing
        for day, row in enumerate(told):
            for good in range(len(nothing)):
                want = bakery[2][good][0][day][0]
                self.assertEqual(kept[good] + row[1][good], row[2][good] + row[3][good])
                self.assertEqual(waiting[good] + want, row[2][good] + row[4][good])
            kept, waiting = row[3], row[4]
        self.assertEqual((kept, waiting), (nothing, nothing))

    def test_forms(self):
        for bakery, plan in self.cases:
            told = replayed(bakery, plan)
            self.assertIsInstance(told, list)
            self.assertEqual(len(told), len(bakery[0]))
            for row in told:
                self.assertIsInstance(row, tuple)
                self.assertEqual(len(row), 6)
                self.assertEqual([len(part) for part in row[1:5]], [len(bakery[2])] * 4)
                self.assertTrue(all(isinstance(part, list) for part in row[1:5]))

    def test_each_list_is_its_own(self):
        for bakery, plan in self.cases:
            self.assertTrue(is_lists_own(replayed(bakery, plan), []))

    def test_asked_twice_and_nothing_changed(self):
        for bakery, plan in self.cases:
            asked(self, replayed, bakery, plan)


class NothingIsKept(unittest.TestCase):
    def test_no_bakery_ahead_of_all_else(self):
        for plan in ([], [(0, 0, 0, 1)]):
            check_refuses_no_bakeries(self, replayed, plan)

    def test_what_is_told_stays_though_all_else_is_changed(self):
        bakery, plan = two_goods(), two_goods_plan()
        told = replayed(bakery, plan)
        before = repr(told)
        bakery[0][0] = 99
        bakery[2].pop()
        plan.clear()
        self.assertEqual(repr(told), before)

    def test_changed_in_place_and_asked_again(self):
        bakery, plan = three_days(), [(0, 0, 0, 2), (0, 0, 1, 4)]
        self.assertEqual(replayed(bakery, plan)[0], (True, [6], [2], [4], [0], 10 + 30 + 4))
        bakery[0][0] = 0
        plan[:] = [(0, 0, 0, 2), (1, 0, 1, 4)]
        self.assertEqual(replayed(bakery, plan)[0], (True, [2], [2], [0], [0], 10))

    def test_it_is_written_in_replays(self):
        self.assertEqual(replays.replayed.__module__, "bakeahead.replays")


if __name__ == "__main__":
    unittest.main()
