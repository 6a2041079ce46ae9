import itertools
import random
import unittest

from bakeahead import bottoms
from bakeahead.bottoms import are_loaf_prices, bottom, gain
from bakeahead.errors import NoDay
from bakeahead.flows import loaf_prices
from bakeahead.loaves import price
from bakeahead.plans import cost_of, lit_days
from helpers import (
    NO_NUMBER, NO_WHOLE, SIXTY_FIGURES, TOP, Thing, all_plans, all_wants, asked, check_refuses_no_bakeries, even_bakery,
    great_goods, one_good, replaced, some_bakery, three_days, tiny_bakery, two_goods, walked_gain,
)


def noughts(bakery):
    return [[0] * len(bakery[0]) for _ in bakery[2]]


def random_prices(chance, bakery, top):
    """Loaf prices of chance, some of them below 0, some far above all else."""
    def one():
        return chance.choice([0, chance.randint(-top, top), chance.randint(0, 3 * top), 100 * top])
    return [[one() for _ in bakery[0]] for _ in bakery[2]]


def gain_by_all_ways(bakery, prices, day):
    """The greatest sum over all ways to bake on the day, each want of each good met by none to all loaves."""
    choices = []
    for good, given, want in all_wants(bakery):
        cost = price(bakery, good, day, given)
        most = 0 if cost is None else want
        choices.append([(many, 0 if many == 0 else many * (prices[good][given] - cost)) for many in range(most + 1)])
    ways = itertools.product(*choices)
    return max(sum(worth for many, worth in way) for way in ways if is_within(bakery[1], way))


def is_within(bound, way):
    return bound is None or sum(many for many, worth in way) <= bound


def worked_bottom(bakery, prices, lit, dark):
    """The bottom by wants, lights and gains."""
    total = sum(want * prices[good][given] for good, given, want in all_wants(bakery))
    for day, light in enumerate(bakery[0]):
        less = light - walked_gain(bakery, prices, day)
        if day in lit:
            total += less
        elif day not in dark:
            total += min(less, 0)
    return total


def parted_days(chance, many):
    """Lit days and dark days, none in both."""
    kinds = [chance.choice(["lit", "dark", "free"]) for _ in range(many)]
    return [[day for day in range(many) if kinds[day] == kind] for kind in ("lit", "dark")]


class LoafPrices(unittest.TestCase):
    def are(self, bakery, thing):
        with self.subTest(thing=thing):
            self.assertIs(asked(self, are_loaf_prices, bakery, thing), True)

    def are_none(self, bakery, thing):
        with self.subTest(thing=thing):
            self.assertIs(asked(self, are_loaf_prices, bakery, thing), False)

    def test_whole_numbers(self):
        self.are(three_days(), [[0, 0, 0]])
        self.are(three_days(), [[1, 2, 3]])
        self.are(three_days(), [[-1, -TOP, -SIXTY_FIGURES]])
        self.are(three_days(), [[SIXTY_FIGURES, TOP + 1, 0]])
        self.are(two_goods(), [[1, 2, 3, 4], [5, -6, 7, 8]])
        self.are(one_good([1], [(0, 1, 1, 1)]), [[7]])
        self.are(even_bakery(40, (1, 1, 1, 1), goods=2), [[-1] * 40, [1] * 40])

    def test_a_price_on_a_day_without_a_want(self):
        self.are(three_days(), [[0, 0, 99]])

    def test_other_kinds(self):
        for thing in NO_WHOLE + [0, 1, Thing(), "000", [0, 0, 0], (0, 0, 0), {0: [0, 0, 0]}, [None], [{}], [{0, 1, 2}]]:
            self.are_none(three_days(), thing)

    def test_tuples_in_the_lists_places(self):
        self.are_none(three_days(), ([0, 0, 0],))
        self.are_none(three_days(), [(0, 0, 0)])
        self.are_none(two_goods(), ([1, 2, 3, 4], [5, 6, 7, 8]))
        self.are_none(two_goods(), [[1, 2, 3, 4], (5, 6, 7, 8)])
        self.are_none(two_goods(), [(1, 2, 3, 4), [5, 6, 7, 8]])

    def test_other_things_in_a_numbers_place(self):
        for thing in NO_WHOLE:
            for at in range(3):
                self.are_none(three_days(), replaced([[0, 0, 0]], [0, at], thing))
            self.are_none(two_goods(), replaced([[1, 2, 3, 4], [5, 6, 7, 8]], [1, 3], thing))

    def test_other_things_in_a_lists_place(self):
        for thing in NO_WHOLE + [0, 7]:
            for at in range(2):
                self.are_none(two_goods(), replaced([[1, 2, 3, 4], [5, 6, 7, 8]], [at], thing))

    def test_too_few_and_too_many(self):
        for thing in [[], [[]], [[0, 0]], [[0, 0, 0, 0]], [[0, 0, 0], [0, 0, 0]], [[0, 0, 0], []], [[], [0, 0, 0]]]:
            self.are_none(three_days(), thing)
        for thing in [[[1, 2, 3, 4]], [[1, 2, 3], [5, 6, 7, 8]], [[1, 2, 3, 4], [5, 6, 7, 8, 9]], [[1, 2, 3, 4]] * 3]:
            self.are_none(two_goods(), thing)

    def test_the_told_ones_are(self):
        chance = random.Random(221)
        for _ in range(30):
            bakery = great_goods(chance, chance.randint(1, 6), chance.choice([1, 2]))
            self.are(bakery, loaf_prices(bakery, list(range(len(bakery[0])))))

    def test_no_bakery_ahead_of_all_else(self):
        for thing in (None, [[0, 0, 0]], []):
            check_refuses_no_bakeries(self, are_loaf_prices, thing)


class Gain(unittest.TestCase):
    def gains(self, bakery, prices, day, sum_of_loaves):
        with self.subTest(bakery=bakery, prices=prices, day=day):
            self.assertEqual(repr(asked(self, gain, bakery, prices, day)), repr(sum_of_loaves))

    def test_by_hand(self):
        # Baked on day 0 a loaf costs 5 for day 0 and 6 for day 1; it can't be kept for day 2.
        self.gains(three_days(), [[9, 9, 9]], 0, 2 * 4 + 4 * 3)
        self.gains(three_days(), [[9, 6, 9]], 0, 2 * 4)
        self.gains(three_days(), [[5, 7, 9]], 0, 4)
        self.gains(three_days(), [[5, 6, 99]], 0, 0)
        self.gains(three_days(), [[0, 0, 0]], 0, 0)
        self.gains(three_days(), [[-9, -9, -9]], 0, 0)
        # On day 1: 9 for day 0, that waits, 6 for day 1.
        self.gains(three_days(), [[10, 8, 0]], 1, 2 * 1 + 4 * 2)
        # Day 1 can't wait for day 2, so nor can day 0; on day 2 nothing is wanted.
        self.gains(three_days(), [[99, 99, 99]], 2, 0)

    def test_the_best_within_the_bound(self):
        for bound, told in [(1, 5), (2, 10), (3, 12), (4, 14), (5, 16), (6, 18), (7, 18), (TOP, 18), (None, 18)]:
            bakery = ([1], bound, [([(4, 10, 1, 1)], 0), ([(2, 10, 1, 1)], 0)])
            self.gains(bakery, [[12], [15]], 0, told)
            self.gains(bakery, [[10], [9]], 0, 0)

    def test_no_more_than_is_wanted(self):
        for bound in (None, 3, TOP):
            self.gains(one_good([1, 1], [(3, 0, 0, 0), (0, 0, 0, 0)], bound=bound), [[TOP, TOP]], 0, 3 * TOP)
            self.gains(one_good([1, 1], [(3, 0, 0, 0), (0, 0, 0, 0)], bound=bound), [[TOP, TOP]], 1, 3 * TOP)

    def test_all_ways_gone_through(self):
        chance = random.Random(222)
        more = 0
        for _ in range(400):
            bakery = tiny_bakery(chance, loaves=6)
            prices = random_prices(chance, bakery, chance.choice([3, 8]))
            for day in range(len(bakery[0])):
                told = gain_by_all_ways(bakery, prices, day)
                self.gains(bakery, prices, day, told)
                more += told > 0
        self.assertGreater(more, 200)

    def test_great_numbers(self):
        chance = random.Random(223)
        for _ in range(60):
            bakery = great_goods(chance, chance.randint(1, 10), chance.choice([1, 2]))
            prices = random_prices(chance, bakery, TOP)
            for made in (bakery, replaced(bakery, [1], None), replaced(bakery, [1], 1), replaced(bakery, [1], TOP)):
                day = chance.randrange(len(bakery[0]))
                self.gains(made, prices, day, walked_gain(made, prices, day))

    def test_prices_of_sixty_figures(self):
        self.gains(one_good([1], [(2, 5, 1, 1)]), [[SIXTY_FIGURES]], 0, 2 * (SIXTY_FIGURES - 5))
        self.gains(one_good([1], [(2, 5, 1, 1)], bound=1), [[SIXTY_FIGURES]], 0, SIXTY_FIGURES - 5)
        self.gains(one_good([1], [(2, 5, 1, 1)]), [[-SIXTY_FIGURES]], 0, 0)

    def test_no_day(self):
        for day in NO_NUMBER + [3, 4, 40, "0", [0], (0,)]:
            with self.subTest(day=day):
                with self.assertRaises(NoDay):
                    gain(three_days(), [[9, 9, 9]], day)
        self.assertEqual(gain(three_days(), [[9, 9, 9]], 0), 20)

    def test_no_bakery_ahead_of_all_else(self):
        for day in (0, None, 99):
            check_refuses_no_bakeries(self, gain, [[0, 0, 0]], day)


class Bottom(unittest.TestCase):
    def bottoms(self, bakery, prices, lit, dark, told):
        with self.subTest(bakery=bakery, prices=prices, lit=lit, dark=dark):
            self.assertEqual(repr(asked(self, bottom, bakery, prices, lit, dark)), repr(told))

    def test_by_hand(self):
        # The gains of the days are 20, 12 and 0; their lights 10, 20 and 30; the wants come to 54.
        prices = [[9, 9, 0]]
        self.bottoms(three_days(), prices, [], [], 54 - 10)
        self.bottoms(three_days(), prices, [0], [], 54 - 10)
        self.bottoms(three_days(), prices, [], [0], 54)
        self.bottoms(three_days(), prices, [1], [], 54 - 10 + 8)
        self.bottoms(three_days(), prices, [1], [0], 54 + 8)
        self.bottoms(three_days(), prices, [0, 1, 2], [], 54 - 10 + 8 + 30)
        self.bottoms(three_days(), prices, [], [0, 1, 2], 54)
        self.bottoms(three_days(), prices, [2], [0, 1], 54 + 30)

    def test_noughts(self):
        for bakery in (three_days(), two_goods()):
            self.bottoms(bakery, noughts(bakery), [], [], 0)
            self.bottoms(bakery, noughts(bakery), [0, 2], [1], bakery[0][0] + bakery[0][2])

    def test_below_nought(self):
        self.bottoms(three_days(), [[-1, -2, -3]], [], [], -2 - 8)
        self.bottoms(three_days(), [[-1, -2, -3]], [2], [], -2 - 8 + 30)

    def test_far_above(self):
        self.bottoms(one_good([7], [(2, 5, 1, 1)]), [[SIXTY_FIGURES]], [], [], 7 + 2 * 5)
        self.bottoms(one_good([7], [(2, 5, 1, 1)]), [[SIXTY_FIGURES]], [0], [], 7 + 2 * 5)
        self.bottoms(one_good([7], [(2, 5, 1, 1)]), [[SIXTY_FIGURES]], [], [0], 2 * SIXTY_FIGURES)

    def test_worked_out(self):
        chance = random.Random(224)
        for _ in range(250):
            bakery = some_bakery(chance, chance.randint(1, 7))
            prices = random_prices(chance, bakery, chance.choice([5, 40]))
            lit, dark = parted_days(chance, len(bakery[0]))
            for pair in [(lit, dark), ([], dark), (lit, []), ([], [])]:
                self.bottoms(bakery, prices, *pair, worked_bottom(bakery, prices, *pair))

    def test_worked_out_at_great_numbers(self):
        chance = random.Random(225)
        for many in (1, 5, 12, 40):
            for goods in (1, 2):
                bakery = great_goods(chance, many, goods)
                prices = random_prices(chance, bakery, TOP)
                lit, dark = parted_days(chance, many)
                self.bottoms(bakery, prices, lit, dark, worked_bottom(bakery, prices, lit, dark))

    def test_no_plan_costs_less(self):
        chance = random.Random(226)
        met = 0
        for _ in range(300):
            bakery = tiny_bakery(chance)
            plans = [(set(lit_days(plan)), cost_of(bakery, plan)) for plan in all_plans(bakery)]
            for _ in range(6):
                lit, dark = parted_days(chance, len(bakery[0]))
                told = bottom(bakery, random_prices(chance, bakery, 6), lit, dark)
                costs = [cost for days, cost in plans if set(lit) <= days and not set(dark) & days]
                with self.subTest(bakery=bakery, lit=lit, dark=dark):
                    self.assertTrue(all(cost >= told for cost in costs))
                met += bool(costs) and told > 0
        self.assertGreater(met, 20)

    def test_it_is_the_least_cost_where_all_days_are_lit_or_dark(self):
        chance = random.Random(227)
        for _ in range(100):
            bakery = great_goods(chance, chance.randint(1, 5), chance.choice([1, 2]))
            days = list(range(len(bakery[0])))
            prices = loaf_prices(bakery, days)
            wants = sum(want * prices[good][given] for good, given, want in all_wants(bakery))
            least = wants - sum(walked_gain(bakery, prices, day) for day in days)
            self.bottoms(bakery, prices, days, [], least + sum(bakery[0]))

    def test_the_days_stay_as_they_were(self):
        lit, dark = [0], [2]
        prices = [[9, 9, 0]]
        bottom(three_days(), prices, lit, dark)
        self.assertEqual((lit, dark, prices), ([0], [2], [[9, 9, 0]]))

    def test_no_bakery_ahead_of_all_else(self):
        check_refuses_no_bakeries(self, bottom, [[0, 0, 0]], [], [])

    def test_all_are_written_in_bottoms(self):
        for name in ("are_loaf_prices", "gain", "bottom"):
            self.assertEqual(getattr(bottoms, name).__module__, "bakeahead.bottoms")


if __name__ == "__main__":
    unittest.main()
