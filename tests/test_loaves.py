import random
import unittest

from bakeahead import loaves
from bakeahead.errors import NoDay, NoGood
from bakeahead.loaves import price, reach, stretch_price
from helpers import (
    NO_WHOLE, SIXTY_FIGURES, TOP, asked, check_refuses_no_bakeries, even_bakery, one_good, random_bakery, three_days,
    two_goods, walked_price,
)

# Of four days and two goods none of these is the number of a day, or of a good.
NO_DAYS_NUMBER = NO_WHOLE + [-1, -4, 4, 5, 40, TOP, SIXTY_FIGURES, -SIXTY_FIGURES]
NO_GOODS_NUMBER = NO_WHOLE + [-1, -2, 2, 3, 40, TOP, SIXTY_FIGURES, -SIXTY_FIGURES]


def all_prices(bakery, good=0):
    days = range(len(bakery[0]))
    return [[price(bakery, good, baked, given) for given in days] for baked in days]


class Prices(unittest.TestCase):
    def test_by_hand_of_one_good(self):
        # Rows are days of baking, columns wanted days; a loaf keeps one night, day 1 has no fine.
        self.assertEqual(all_prices(three_days()), [[5, 6, None], [9, 6, 8], [None, None, 7]])

    def test_by_hand_of_two_goods(self):
        self.assertEqual(
            all_prices(two_goods(), 0), [[5, 6, 8, None], [9, 6, 8, 12], [18, 15, 7, 11], [None, None, None, 2]]
        )
        self.assertEqual(
            all_prices(two_goods(), 1), [[1, 3, 6, 10], [None, 2, 5, 9], [None, 8, 3, 7], [None, 21, 16, 9]]
        )

    def test_the_same_day(self):
        for life in (None, 0, 40):
            for fine in (None, 7):
                bakery = even_bakery(3, (1, 5, 2, fine), life=life)
                self.assertEqual([price(bakery, 0, day, day) for day in range(3)], [5, 5, 5])

    def test_baked_ahead_within_each_life(self):
        for life in (None, 0, 1, 2, 3, 40):
            bakery = even_bakery(5, (1, 100, 10, None), life=life)
            told = [price(bakery, 0, 0, given) for given in range(5)]
            wanted = [100 + 10 * given if life is None or given <= life else None for given in range(5)]
            self.assertEqual(told, wanted)

    def test_ahead_the_keeps_of_just_the_nights_between(self):
        days = [(1, 1000, 1, None), (1, 2000, 10, None), (1, 3000, 100, None), (1, 4000, 500, None)]
        bakery = one_good([0] * 4, days)
        self.assertEqual(price(bakery, 0, 0, 3), 1111)
        self.assertEqual(price(bakery, 0, 1, 3), 2110)
        self.assertEqual(price(bakery, 0, 2, 3), 3100)

    def test_behind_the_fines_of_just_the_nights_between(self):
        bakery = one_good([0] * 4, [(1, 1000, 7, 1), (1, 2000, 7, 10), (1, 3000, 7, 100), (1, 4000, 7, 500)], life=0)
        self.assertEqual(price(bakery, 0, 3, 0), 4111)
        self.assertEqual(price(bakery, 0, 3, 1), 4110)
        self.assertEqual(price(bakery, 0, 2, 0), 3011)

    def test_behind_a_night_without_a_fine(self):
        for night in range(4):
            days = [(1, 100, 1, None if day == night else 0) for day in range(4)]
            bakery = one_good([0] * 4, days, life=0)
            for given in range(4):
                for baked in range(given + 1, 4):
                    crossed = given <= night < baked
                    self.assertEqual(price(bakery, 0, baked, given), None if crossed else 100)

    def test_a_fine_of_nought_is_a_fine(self):
        self.assertEqual(price(even_bakery(3, (1, 4, 9, 0), life=0), 0, 2, 0), 4)

    def test_a_life_is_no_bound_on_waiting(self):
        self.assertEqual(price(even_bakery(40, (1, 4, 9, 2), life=0), 0, 39, 0), 4 + 39 * 2)

    def test_a_price_hangs_on_no_want(self):
        self.assertEqual(price(even_bakery(3, (0, 4, 9, 2)), 0, 0, 2), 22)

    def test_forty_days_of_the_greatest_numbers(self):
        bakery = even_bakery(40, (TOP, TOP, TOP, TOP), light=TOP, life=40)
        self.assertEqual(price(bakery, 0, 0, 39), 40 * TOP)
        self.assertEqual(price(bakery, 0, 39, 0), 40 * TOP)
        self.assertEqual(price(bakery, 0, 39, 39), TOP)
        self.assertIsNone(price(even_bakery(40, (1, 1, 1, None), life=38), 0, 0, 39))
        self.assertEqual(price(even_bakery(40, (1, 1, 1, None), life=39), 0, 0, 39), 40)

    def test_against_a_walk_from_night_to_night(self):
        chance = random.Random(1)
        for many in (1, 2, 3, 5, 8) * 6:
            bakery = random_bakery(chance, many, goods=2)
            for good in (0, 1):
                told = all_prices(bakery, good)
                days = range(many)
                walked = [[walked_price(bakery, good, baked, given) for given in days] for baked in days]
                self.assertEqual(told, walked)


class Reaches(unittest.TestCase):
    def test_by_hand(self):
        self.assertEqual([reach(three_days(), 0, day) for day in range(3)], [(0, 1), (0, 1), (1, 2)])
        self.assertEqual([reach(two_goods(), 0, day) for day in range(4)], [(0, 2), (0, 2), (0, 2), (1, 3)])
        self.assertEqual([reach(two_goods(), 1, day) for day in range(4)], [(0, 0), (0, 3), (0, 3), (0, 3)])

    def test_one_day(self):
        for fine in (None, 0, 5):
            self.assertEqual(reach(one_good([1], [(1, 2, 3, fine)], life=40), 0, 0), (0, 0))

    def test_lives(self):
        for life, first in [(None, 0), (0, 5), (1, 4), (5, 0), (6, 0), (40, 0)]:
            self.assertEqual(reach(even_bakery(8, (0, 2, 3, None), life=life), 0, 5), (first, 5))
            self.assertEqual(reach(even_bakery(8, (0, 2, 3, 0), life=life), 0, 5), (first, 7))

    def test_just_the_days_between_have_a_price(self):
        chance = random.Random(2)
        for many in (1, 2, 4, 7) * 8:
            bakery = random_bakery(chance, many, goods=2)
            for good in (0, 1):
                for given in range(many):
                    first, last = reach(bakery, good, given)
                    priced = [baked for baked in range(many) if walked_price(bakery, good, baked, given) is not None]
                    self.assertEqual(list(range(first, last + 1)), priced)

    def test_it_is_a_tuple_of_whole_numbers(self):
        self.assertEqual(repr(reach(even_bakery(40, (1, 1, 1, 1)), 0, 7)), "(0, 39)")


class Stretches(unittest.TestCase):
    def test_by_hand(self):
        bakery = three_days()
        self.assertEqual(stretch_price(bakery, 0, 0, 0, 0), 10)
        self.assertEqual(stretch_price(bakery, 0, 0, 0, 1), 34)
        self.assertEqual(stretch_price(bakery, 0, 1, 0, 1), 42)
        self.assertEqual(stretch_price(two_goods(), 0, 1, 1, 3), 24 + 0 + 36)
        self.assertEqual(stretch_price(two_goods(), 1, 0, 0, 3), 1 + 0 + 30 + 20)

    def test_nought_without_a_want_though_there_is_no_price(self):
        bakery = even_bakery(5, (0, 1, 1, None), life=0)
        for baked in range(5):
            for first in range(5):
                for last in range(first, 5):
                    self.assertEqual(repr(stretch_price(bakery, 0, baked, first, last)), "0")

    def test_none_where_a_wanted_day_has_no_price(self):
        bakery = one_good([1] * 3, [(1, 5, 0, None), (0, 5, 0, None), (1, 5, 0, None)], life=1)
        self.assertIsNone(stretch_price(bakery, 0, 0, 0, 2))
        self.assertIsNone(stretch_price(bakery, 0, 2, 0, 2))
        self.assertIsNone(stretch_price(bakery, 0, 1, 0, 2))
        self.assertEqual(stretch_price(bakery, 0, 1, 1, 2), 5)

    def test_days_without_a_want_need_no_price(self):
        # Baked on day 2: day 0 has no price there, nor has day 3, but nothing is wanted on them.
        days = [(0, 5, 0, None), (3, 5, 0, 2), (4, 7, 1, None), (0, 5, 0, None)]
        self.assertEqual(stretch_price(one_good([1] * 4, days, life=0), 0, 2, 0, 3), 3 * 9 + 4 * 7)

    def test_a_price_of_nought_is_a_price(self):
        self.assertEqual(stretch_price(even_bakery(4, (5, 0, 0, 0)), 0, 2, 0, 3), 0)

    def test_forty_days_of_the_greatest_numbers(self):
        bakery = even_bakery(40, (TOP, TOP, TOP, None), light=TOP)
        self.assertEqual(stretch_price(bakery, 0, 0, 0, 39), TOP * TOP * sum(range(1, 41)))

    def test_against_a_walk_from_night_to_night(self):
        chance = random.Random(3)
        for many in (1, 3, 5) * 8:
            bakery = random_bakery(chance, many, goods=2)
            for good in (0, 1):
                self.check_all(bakery, good, many)

    def check_all(self, bakery, good, many):
        for baked in range(many):
            for first in range(many):
                for last in range(first, many):
                    wanted = [day for day in range(first, last + 1) if bakery[2][good][0][day][0] > 0]
                    prices = [walked_price(bakery, good, baked, day) for day in wanted]
                    total = None
                    if None not in prices:
                        total = sum(bakery[2][good][0][day][0] * each for day, each in zip(wanted, prices))
                    self.assertEqual(stretch_price(bakery, good, baked, first, last), total)


class Refusals(unittest.TestCase):
    def refused(self, error, ask, *handed):
        with self.subTest(ask=ask, handed=handed[1:]):
            with self.assertRaises(error) as caught:
                ask(*handed)
            self.assertEqual(type(caught.exception), error)

    def test_no_bakery_ahead_of_all_else(self):
        for other in (0, "x", None, -1):
            check_refuses_no_bakeries(self, price, other, other, other)
            check_refuses_no_bakeries(self, reach, other, other)
            check_refuses_no_bakeries(self, stretch_price, other, other, other, other)

    def test_no_good_ahead_of_no_day(self):
        for thing in NO_GOODS_NUMBER:
            for day in (0, 4, None, True):
                self.refused(NoGood, price, two_goods(), thing, day, day)
                self.refused(NoGood, reach, two_goods(), thing, day)
                self.refused(NoGood, stretch_price, two_goods(), thing, day, day, day)

    def test_the_second_good_of_one(self):
        self.refused(NoGood, price, three_days(), 1, 0, 0)
        self.refused(NoGood, reach, three_days(), 1, 0)
        self.refused(NoGood, stretch_price, three_days(), 1, 0, 0, 0)

    def test_no_day_at_each_place(self):
        for thing in NO_DAYS_NUMBER:
            for good in (0, 1):
                self.refused(NoDay, price, two_goods(), good, thing, 0)
                self.refused(NoDay, price, two_goods(), good, 0, thing)
                self.refused(NoDay, reach, two_goods(), good, thing)
                self.refused(NoDay, stretch_price, two_goods(), good, thing, 0, 3)
                self.refused(NoDay, stretch_price, two_goods(), good, 0, thing, 3)
                self.refused(NoDay, stretch_price, two_goods(), good, 0, 0, thing)

    def test_a_last_below_the_first(self):
        for first in range(4):
            for last in range(first):
                self.refused(NoDay, stretch_price, two_goods(), 0, 0, first, last)
                self.refused(NoDay, stretch_price, even_bakery(4, (0, 0, 0, None)), 0, 0, first, last)

    def test_the_number_behind_the_last_of_forty(self):
        bakery = even_bakery(40, (1, 1, 1, 1))
        self.refused(NoDay, price, bakery, 0, 40, 0)
        self.refused(NoDay, price, bakery, 0, 0, 40)
        self.refused(NoDay, reach, bakery, 0, 40)
        self.assertEqual(price(bakery, 0, 39, 39), 1)

    def test_a_refusal_leaves_nothing_behind(self):
        bakery = two_goods()
        before = repr(bakery)
        self.refused(NoGood, price, bakery, 2, 0, 0)
        self.refused(NoDay, price, bakery, 0, 4, 0)
        self.assertEqual(repr(bakery), before)
        self.assertEqual(price(bakery, 1, 0, 3), 10)


class NothingIsKept(unittest.TestCase):
    def test_asked_twice_and_nothing_changed(self):
        for bakery in (two_goods(), three_days()):
            asked(self, price, bakery, 0, 2, 0)
            asked(self, price, bakery, 0, 0, 1)
            asked(self, reach, bakery, 0, 1)
            asked(self, stretch_price, bakery, 0, 1, 0, 1)

    def test_a_bakery_changed_in_place_is_judged_anew(self):
        bakery = three_days()
        self.assertEqual(price(bakery, 0, 1, 1), 6)
        self.assertEqual(reach(bakery, 0, 1), (0, 1))
        self.assertEqual(stretch_price(bakery, 0, 1, 1, 1), 24)
        bakery[2][0][0][1] = (5, 60, 2, 4)
        self.assertEqual(price(bakery, 0, 1, 1), 60)
        self.assertEqual(reach(bakery, 0, 1), (0, 2))
        self.assertEqual(stretch_price(bakery, 0, 1, 1, 1), 300)

    def test_all_are_written_in_loaves(self):
        for name in ("price", "reach", "stretch_price"):
            self.assertEqual(getattr(loaves, name).__module__, "bakeahead.loaves")


if __name__ == "__main__":
    unittest.main()
