import random
import unittest

from bakeahead import cheapest as module
from bakeahead.cheapest import cheapest
from bakeahead.errors import NotPlain
from bakeahead.plans import cost_of, fits, lit_days
from bakeahead.replays import replayed
from bakeahead.rows import least_row
from helpers import (
    TOP, asked, check_refuses_no_bakeries, check_refuses_not_plain, even_bakery, great_bakery, least_by_all_sets,
    one_good, random_bakery, random_plan, replaced, three_days,
)


class Cheapest(unittest.TestCase):
    def told(self, bakery, cost=None):
        """The told plan fits, costs what the row tells, and comes to the same day by day."""
        plan = asked(self, cheapest, bakery)
        with self.subTest(bakery=bakery, plan=plan):
            self.assertIs(fits(bakery, plan), True)
            self.assertEqual(cost_of(bakery, plan), least_row(bakery)[-1])
            self.assertEqual(sum(day[5] for day in replayed(bakery, plan)), least_row(bakery)[-1])
            if cost is not None:
                self.assertEqual(cost_of(bakery, plan), cost)
        return plan


class ByHand(Cheapest):
    def test_three_days(self):
        self.assertEqual(self.told(three_days(), 44), [(0, 0, 0, 2), (0, 0, 1, 4)])

    def test_nothing_wanted(self):
        for many in (1, 2, 40):
            for light in (0, 9):
                for fine in (None, 0, 3):
                    bakery = even_bakery(many, (0, 5, 5, fine), light=light)
                    self.assertEqual(repr(asked(self, cheapest, bakery)), "[]")

    def test_one_day(self):
        self.assertEqual(self.told(one_good([7], [(3, 5, 1, None)], life=0), 22), [(0, 0, 0, 3)])

    def test_days_without_a_want_have_no_rows(self):
        wants = [0, 2, 0, 0, 1, 0]
        bakery = one_good([9] * 6, [(want, 1, 100, None) for want in wants])
        self.assertEqual(self.told(bakery, 21), [(1, 0, 1, 2), (4, 0, 4, 1)])

    def test_kept(self):
        self.assertEqual(self.told(even_bakery(3, (1, 2, 0, None), light=5), 11), [(0, 0, day, 1) for day in range(3)])

    def test_lives(self):
        for life, cost, lit in [(0, 28, 4), (1, 18, 2), (2, 18, 2), (3, 13, 1), (40, 13, 1), (None, 13, 1)]:
            plan = self.told(even_bakery(4, (1, 2, 0, None), light=5, life=life), cost)
            self.assertEqual(len(lit_days(plan)), lit)

    def test_late(self):
        bakery = one_good([50, 10, 0], [(1, 20, 0, 3), (1, 1, 0, 2), (0, 0, 0, None)])
        self.assertEqual(self.told(bakery, 7), [(2, 0, 0, 1), (2, 0, 1, 1)])

    def test_not_late_over_a_night_without_a_fine(self):
        bakery = one_good([50, 10], [(1, 20, 0, None), (0, 1, 0, 5)])
        self.assertEqual(self.told(bakery, 70), [(0, 0, 0, 1)])

    def test_a_lit_day_may_bake_for_later_days_alone(self):
        days = [(0, 0, 0, None), (1, 10, 0, None), (1, 99, 0, None), (1, 99, 0, None)]
        bakery = one_good([1, 1, 50, 50], days, life=2)
        self.assertEqual(self.told(bakery, 12), [(0, 0, 1, 1), (0, 0, 2, 1), (1, 0, 3, 1)])

    def test_a_loaf_each_day_where_all_is_free(self):
        self.told(even_bakery(5, (1, 0, 0, 0), light=0), 0)
        self.told(even_bakery(5, (1, 0, 0, None), light=0, life=0), 0)


class AgainstAllSets(Cheapest):
    def test_few_days_of_chance(self):
        chance = random.Random(21)
        lates = 0
        for _ in range(500):
            bakery = random_bakery(chance, chance.randint(1, 6), fines=chance.random() < 0.7)
            plan = self.told(bakery, least_by_all_sets(bakery))
            lates += any(baked > given for baked, good, given, many in plan)
        self.assertGreater(lates, 50)

    def test_few_days_of_great_numbers(self):
        chance = random.Random(22)
        for _ in range(200):
            bakery = great_bakery(chance, chance.randint(1, 6), fines=chance.random() < 0.7)
            self.told(bakery, least_by_all_sets(bakery))

    def test_each_life(self):
        chance = random.Random(23)
        for life in (None, 0, 1, 2, 3, 5, 40):
            for fines in (True, False):
                for _ in range(15):
                    bakery = replaced(random_bakery(chance, 6, fines=fines), [2, 0, 1], life)
                    self.told(bakery, least_by_all_sets(bakery))


class ManyDays(Cheapest):
    def test_each_number_of_days(self):
        chance = random.Random(24)
        for many in range(1, 41):
            for fines in (True, False):
                self.told(random_bakery(chance, many, fines=fines))
                self.told(great_bakery(chance, many, fines=fines))

    def test_no_plan_costs_less(self):
        chance = random.Random(25)
        for _ in range(100):
            bakery = random_bakery(chance, chance.randint(1, 20))
            self.assertLessEqual(cost_of(bakery, cheapest(bakery)), cost_of(bakery, random_plan(chance, bakery)))

    def test_forty_days_of_the_greatest_numbers(self):
        # Going through sets of days, or through loaves, would never come to an end here.
        for keep, fine in [(TOP, TOP), (0, None), (0, 0), (TOP, 0), (0, TOP)]:
            for life in (None, 0, 1, 7, 40):
                self.told(even_bakery(40, (TOP, TOP, keep, fine), light=TOP, life=life))

    def test_all_wait_for_the_last_day(self):
        bakery = one_good([TOP] * 39 + [1], [(TOP, TOP, TOP, 0)] * 39 + [(0, 0, TOP, None)])
        self.assertEqual(self.told(bakery, 1), [(39, 0, day, TOP) for day in range(39)])


class Refusals(unittest.TestCase):
    def test_no_bakery_ahead_of_all_else(self):
        check_refuses_no_bakeries(self, cheapest)

    def test_not_plain(self):
        check_refuses_not_plain(self, cheapest)

    def test_a_refusal_leaves_nothing_behind(self):
        with self.assertRaises(NotPlain):
            cheapest(replaced(three_days(), [1], 5))
        self.assertEqual(cheapest(three_days()), [(0, 0, 0, 2), (0, 0, 1, 4)])

    def test_changed_in_place_and_asked_again(self):
        bakery = three_days()
        told = cheapest(bakery)
        bakery[0][1] = 0
        bakery[2][0][0][0] = (0, 5, 1, 3)
        self.assertEqual(cheapest(bakery), [(1, 0, 1, 4)])
        self.assertEqual(told, [(0, 0, 0, 2), (0, 0, 1, 4)])

    def test_it_is_written_in_cheapest(self):
        self.assertEqual(module.cheapest.__module__, "bakeahead.cheapest")


if __name__ == "__main__":
    unittest.main()
