import random
import unittest

from bakeahead import trees
from bakeahead.errors import TooMany, TooMuch
from bakeahead.flows import loaf_cost
from bakeahead.plans import cost_of, fits
from bakeahead.replays import replayed
from bakeahead.rows import least_row
from bakeahead.toomuch import too_much
from bakeahead.treelook import lets_tree
from bakeahead.trees import cheapest_tree
from helpers import (
    TOP, all_plans, asked, check_refuses_no_bakeries, even_bakery, great_bakery, great_goods, lists_within, one_good,
    random_bakery, replaced, sets_of_days, some_bakery, three_days, tiny_bakery, two_goods, walked_price,
)


def depth_of(tree):
    return 1 + max(depth_of(tree[2]), depth_of(tree[3])) if tree[0] == "split" else 0


class Cheapest(unittest.TestCase):
    def told(self, bakery, least=None):
        """A plan that fits, and a tree for its cost, that is the least one, where it is known."""
        with self.subTest(bakery=bakery):
            answer = asked(self, cheapest_tree, bakery)
            self.assertEqual((type(answer), len(answer)), (tuple, 2))
            plan, tree = answer
            self.assertIs(fits(bakery, plan), True)
            cost = cost_of(bakery, plan)
            self.assertIs(lets_tree(bakery, cost, tree), True)
            self.assertIs(lets_tree(bakery, cost + 1, tree), False)
            self.assertEqual(sum(day[5] for day in replayed(bakery, plan)), cost)
            self.assertLessEqual(depth_of(tree), len(bakery[0]))
            if least is not None:
                self.assertEqual(cost, least)
            return cost

    def refused(self, bakery):
        with self.subTest(bakery=bakery):
            before = repr(bakery)
            with self.assertRaises(TooMuch) as caught:
                cheapest_tree(bakery)
            told = (caught.exception.first, caught.exception.last)
            self.assertEqual(repr(told), repr(too_much(bakery, [])))
            self.assertEqual(repr(bakery), before)


class ByHand(Cheapest):
    def test_one_day(self):
        for goods in (1, 2):
            for bound in (None, 6):
                self.told(even_bakery(1, (3, 4, 1, 1), light=7, bound=bound, goods=goods), 7 + goods * 12)
        self.told(even_bakery(1, (TOP, TOP, TOP, TOP), light=TOP, bound=TOP), TOP + TOP * TOP)

    def test_three_days(self):
        self.told(three_days(), 10 + 2 * 5 + 4 * 6)
        # All on day 0 is too many for a day: 2 for day 1 are baked on it, or all of day 0 on day 1.
        self.told(replaced(three_days(), [1], 4), 10 + 20 + 2 * 5 + 4 * 6)

    def test_nothing_wanted(self):
        for bound in (None, 1):
            for goods in (1, 2):
                bakery = even_bakery(4, (0, 1, 1, None), bound=bound, goods=goods)
                self.assertEqual(cheapest_tree(bakery)[0], [])
                self.told(bakery, 0)

    def test_a_light_is_shared_by_two_goods(self):
        # Each good alone would be baked day by day; together, too, as the light is paid once.
        bakery = even_bakery(3, (2, 1, 3, None), light=10, goods=2)
        self.told(bakery, 3 * 10 + 12 * 1)
        self.told(replaced(bakery, [0], [10, 20, 10]), 2 * 10 + 12 * 1 + 4 * 3)
        self.told(replaced(replaced(bakery, [0], [10, 20, 10]), [1], 6), 20 + 20 + 12)

    def test_a_bound_that_is_just_met(self):
        bakery = even_bakery(6, (2, 1, 1, None), light=3, bound=4, goods=2)
        self.told(bakery, 6 * 3 + 24)
        self.refused(replaced(bakery, [1], 3))

    def test_a_day_is_lit_for_a_single_loaf(self):
        days = [(0, 0, 1, None), (0, 0, 1, None), (5, 0, 1, None)]
        self.told(one_good([50, 9, 20], days, bound=4), 9 + 20 + 1)
        self.told(one_good([50, 9, 20], days, bound=5), 9 + 5)


class AgainstAllPlans(Cheapest):
    def test_few_small_loaves(self):
        chance = random.Random(241)
        told = {True: 0, False: 0}
        for at in range(400):
            bakery = tiny_bakery(chance, loaves=4, most=3 if at % 4 else 5)
            costs = [self.by_loaves(bakery, plan) for plan in all_plans(bakery)]
            told[costs != []] += 1
            if costs:
                self.told(bakery, min(costs))
            else:
                self.refused(bakery)
        self.assertGreater(min(told.values()), 50)

    def by_loaves(self, bakery, plan):
        """What the plan costs, loaf by loaf, and day by day."""
        loaves = sum(row[3] * walked_price(bakery, row[1], row[0], row[2]) for row in plan)
        return loaves + sum(bakery[0][day] for day in {row[0] for row in plan})

    def test_dear_lights(self):
        chance = random.Random(242)
        for _ in range(80):
            lights, bound, goods = tiny_bakery(chance, loaves=5)
            bakery = ([chance.randint(5, 15) for _ in lights], bound, goods)
            costs = [cost_of(bakery, plan) for plan in all_plans(bakery)]
            if costs:
                self.told(bakery, min(costs))
            else:
                self.refused(bakery)


class AgainstAllSetsOfLitDays(Cheapest):
    def least_by_sets(self, bakery):
        """The least cost over all sets of lit days, of a bakery without a bound."""
        costs = []
        for lit in sets_of_days(len(bakery[0])):
            cost = self.cost_with(bakery, lit)
            if cost is not None:
                costs.append(cost)
        return min(costs)

    def cost_with(self, bakery, lit):
        total = sum(bakery[0][day] for day in lit)
        for good, (days, life) in enumerate(bakery[2]):
            for given, day in enumerate(days):
                prices = [walked_price(bakery, good, baked, given) for baked in lit]
                prices = [each for each in prices if each is not None]
                if day[0] and not prices:
                    return None
                total += day[0] * min(prices, default=0)
        return total

    def test_without_a_bound(self):
        chance = random.Random(243)
        for many in range(1, 7):
            for goods in (1, 2):
                for _ in range(8):
                    bakery = random_bakery(chance, many, goods=goods)
                    self.told(bakery, self.least_by_sets(bakery))
                    lights, bound, made = great_goods(chance, many, goods)
                    self.told((lights, None, made), self.least_by_sets((lights, None, made)))

    def test_a_bound_of_all_wants_together_bounds_nothing(self):
        chance = random.Random(244)
        for _ in range(40):
            bakery = random_bakery(chance, chance.randint(1, 6), goods=chance.choice([1, 2]))
            wants = sum(day[0] for days, life in bakery[2] for day in days)
            self.told(replaced(bakery, [1], max(1, wants)), self.least_by_sets(bakery))

    def test_plain_ones_by_the_row(self):
        chance = random.Random(245)
        for many in range(1, 7):
            for _ in range(12):
                bakery = random_bakery(chance, many)
                self.told(bakery, least_row(bakery)[-1])
                bakery = great_bakery(chance, many)
                self.told(bakery, least_row(bakery)[-1])


class OfChance(Cheapest):
    def test_small_numbers(self):
        chance = random.Random(246)
        told = {True: 0, False: 0}
        for _ in range(200):
            bakery = some_bakery(chance, chance.randint(1, 6))
            fitting = too_much(bakery, []) is None
            told[fitting] += 1
            if fitting:
                self.told(bakery)
            else:
                self.refused(bakery)
        self.assertGreater(min(told.values()), 10)

    def test_great_numbers(self):
        chance = random.Random(247)
        for many in range(1, 7):
            for goods in (1, 2):
                for _ in range(4):
                    self.told(great_goods(chance, many, goods))

    def test_each_bound(self):
        chance = random.Random(248)
        for _ in range(6):
            bakery = random_bakery(chance, 6, goods=2)
            costs = []
            for bound in range(1, 14):
                bounded = replaced(bakery, [1], bound)
                if too_much(bounded, []) is None:
                    costs.append(self.told(bounded))
                else:
                    self.refused(bounded)
            # More room never costs more.
            self.assertEqual(costs, sorted(costs, reverse=True))

    def test_no_loaves_cost_what_the_lights_do(self):
        chance = random.Random(249)
        for _ in range(20):
            bakery = even_bakery(6, (chance.randint(1, 3), 0, 0, 0), light=7, bound=chance.randint(3, 20))
            wants = 6 * bakery[2][0][0][0][0]
            cost = self.told(bakery, 7 * -(-wants // bakery[1]))
            self.assertEqual(loaf_cost(bakery, cheapest_tree(bakery)[0]), 0)
            self.assertGreater(cost, 0)


class Refusals(Cheapest):
    def test_more_than_six_days(self):
        for many in (7, 8, 12, 40):
            for bound in (None, 1, 5):
                for goods in (1, 2):
                    # With a bound of 1 and two goods too much is wanted, but TooMany goes ahead.
                    bakery = even_bakery(many, (1, 1, 1, None), bound=bound, goods=goods)
                    with self.assertRaises(TooMany):
                        cheapest_tree(bakery)
        self.told(even_bakery(6, (1, 1, 1, None), bound=5, goods=2))

    def test_too_much_by_the_first_stretch(self):
        days = [(0, 1, 1, 1), (3, 1, 1, None), (1, 1, 1, None), (9, 1, 1, None)]
        for bound in (1, 2, 3):
            for life in (None, 0, 1, 2):
                bakery = one_good([1, 1, 1, 1], days, life=life, bound=bound)
                self.refused(bakery)
        self.refused(even_bakery(6, (TOP, 1, 1, 1), bound=TOP, goods=2))
        self.refused(replaced(two_goods(), [1], 1))

    def test_no_bakery_ahead_of_all_else(self):
        check_refuses_no_bakeries(self, cheapest_tree)

    def test_a_refusal_leaves_nothing_behind(self):
        for bakery, error in [(even_bakery(7, (1, 1, 1, 1)), TooMany), (replaced(two_goods(), [1], 1), TooMuch)]:
            with self.assertRaises(error):
                cheapest_tree(bakery)
            self.told(three_days(), 44)

    def test_no_list_is_there_twice(self):
        chance = random.Random(250)
        for _ in range(30):
            bakery = great_goods(chance, 6)
            plan, tree = cheapest_tree(bakery)
            places = [id(part) for part in lists_within((plan, tree))]
            self.assertEqual(len(places), len(set(places)))

    def test_it_is_written_in_trees(self):
        self.assertEqual(trees.cheapest_tree.__module__, "bakeahead.trees")


if __name__ == "__main__":
    unittest.main()
