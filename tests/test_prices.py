import random
import unittest

from bakeahead import prices as module
from bakeahead.cheapest import cheapest
from bakeahead.plans import cost_of
from bakeahead.pricelook import lets_prices
from bakeahead.prices import prices_of
from bakeahead.rows import least_row
from helpers import (
    TOP, asked, check_refuses_no_bakeries, check_refuses_not_plain, even_bakery, great_bakery, least_by_all_sets,
    one_good, random_bakery, random_plan, replaced, three_days,
)


class Prices(unittest.TestCase):
    def told(self, bakery):
        """The told prices are whole, 0 where nothing is wanted, let by, and come to the least cost."""
        prices = asked(self, prices_of, bakery)
        with self.subTest(bakery=bakery, prices=prices):
            self.assertIsInstance(prices, list)
            self.assertEqual(len(prices), len(bakery[0]))
            for each, day in zip(prices, bakery[2][0][0]):
                self.assertIs(type(each), int)
                self.assertTrue(day[0] > 0 or each == 0)
            self.assertIs(lets_prices(bakery, prices), True)
            self.assertEqual(sum(prices), least_row(bakery)[-1])
            self.assertEqual(sum(prices), cost_of(bakery, cheapest(bakery)))
        return prices


class ByHand(Prices):
    def test_three_days(self):
        self.assertEqual(sum(self.told(three_days())), 44)

    def test_nothing_wanted(self):
        for many in (1, 3, 40):
            self.assertEqual(self.told(even_bakery(many, (0, 5, 5, 0), light=9)), [0] * many)

    def test_one_day(self):
        self.assertEqual(self.told(one_good([7], [(3, 5, 1, None)], life=0)), [22])

    def test_each_day_for_itself(self):
        self.assertEqual(self.told(even_bakery(4, (2, 5, 0, None), light=7, life=0)), [17] * 4)

    def test_where_a_later_number_of_the_row_is_less(self):
        bakery = one_good([50, 10, 0], [(1, 20, 0, 3), (1, 1, 0, 2), (0, 0, 0, None)])
        self.assertEqual(least_row(bakery), [0, 70, 15, 7])
        self.assertEqual(sum(self.told(bakery)), 7)
        self.assertEqual(sum(self.told(one_good([50, 10], [(1, 20, 0, 3), (0, 1, 0, None)]))), 14)


class OfChance(Prices):
    def test_few_days_against_all_sets(self):
        chance = random.Random(41)
        for _ in range(400):
            bakery = random_bakery(chance, chance.randint(1, 6), fines=chance.random() < 0.7)
            self.assertEqual(sum(self.told(bakery)), least_by_all_sets(bakery))

    def test_each_number_of_days(self):
        chance = random.Random(42)
        for many in range(1, 41):
            for fines in (True, False):
                self.told(random_bakery(chance, many, fines=fines))
                self.told(great_bakery(chance, many, fines=fines))

    def test_each_life(self):
        chance = random.Random(43)
        for life in (None, 0, 1, 2, 7, 39, 40):
            for fines in (True, False):
                self.told(replaced(random_bakery(chance, 40, fines=fines), [2, 0, 1], life))

    def test_the_greatest_numbers(self):
        for keep, fine in [(TOP, TOP), (0, None), (0, 0), (TOP, 0), (0, TOP)]:
            for life in (None, 0, 1, 7, 40):
                self.told(even_bakery(40, (TOP, TOP, keep, fine), light=TOP, life=life))

    def test_no_plan_costs_less(self):
        chance = random.Random(44)
        for _ in range(200):
            bakery = random_bakery(chance, chance.randint(1, 20))
            self.assertLessEqual(sum(prices_of(bakery)), cost_of(bakery, random_plan(chance, bakery)))


class Refusals(unittest.TestCase):
    def test_no_bakery_ahead_of_all_else(self):
        check_refuses_no_bakeries(self, prices_of)

    def test_not_plain(self):
        check_refuses_not_plain(self, prices_of)

    def test_changed_in_place_and_asked_again(self):
        bakery = even_bakery(2, (2, 5, 0, None), light=7, life=0)
        told = prices_of(bakery)
        bakery[0][1] = 8
        self.assertEqual(prices_of(bakery), [17, 18])
        self.assertEqual(told, [17, 17])

    def test_it_is_written_in_prices(self):
        self.assertEqual(module.prices_of.__module__, "bakeahead.prices")


if __name__ == "__main__":
    unittest.main()
