import random
import time
import unittest

from bakeahead import flows
from bakeahead.errors import NoDays, TooMuch
from bakeahead.flows import baked_on, loaf_cost, loaf_prices
from bakeahead.plans import cost_of, fits, lit_days
from bakeahead.toomuch import too_much
from helpers import (
    NO_DAYS, NO_WHOLE, TOP, all_plans, all_prices, all_wants, asked, check_refuses_no_bakeries, even_bakery,
    great_bakery, great_goods, one_good, other_days, random_bakery, random_plan, replaced, sets_of_days, some_bakery,
    some_days, three_days, tiny_bakery, two_goods, two_goods_plan, walked_gain, walked_price,
)


def loaves_alone(bakery, plan):
    """What the plan's loaves cost, by walking from night to night."""
    return sum(many * walked_price(bakery, good, baked, given) for baked, good, given, many in plan)


def shifts(bakery, lit, plan):
    """For two lit days by how much a loaf baked on the second, in the stead of one on the first, is dearer at least."""
    found = {(one, other): 0 if one == other else None for one in lit for other in lit}
    for baked, good, given, many in plan:
        prices = all_prices(bakery, good, given)
        for other in lit:
            if other in prices:
                dearer = prices[other] - prices[baked]
                before = found[baked, other]
                found[baked, other] = dearer if before is None else min(before, dearer)
    return found


def with_room_left(bakery, lit, plan):
    """The lit days on which another loaf could be baked."""
    loaves = {day: sum(row[3] for row in plan if row[0] == day) for day in lit}
    return [day for day in lit if bakery[1] is None or loaves[day] < bakery[1]]


def is_least(bakery, lit, plan):
    """Whether no moving of loaves from day to day, in a round or to a day with room, makes the plan cheaper.

    It is the textbook's proof that there is no cheaper flow: no round of moves in what is left over costs less than 0.
    """
    far = shifts(bakery, lit, plan)
    for between in lit:
        for one in lit:
            for other in lit:
                there, on = far[one, between], far[between, other]
                if there is not None and on is not None:
                    if far[one, other] is None or there + on < far[one, other]:
                        far[one, other] = there + on
    if any(far[day, day] < 0 for day in lit):
        return False
    baking = lit_days(plan)
    ends = [far[one, other] for one in baking for other in with_room_left(bakery, lit, plan)]
    return all(end is None or end >= 0 for end in ends)


class Flows(unittest.TestCase):
    def plan_on(self, bakery, lit):
        """The told plan, that fits and bakes on none but the lit days."""
        plan = asked(self, baked_on, bakery, lit)
        self.assertIs(type(plan), list)
        self.assertIs(fits(bakery, plan), True)
        self.assertEqual([day for day in lit_days(plan) if day not in lit], [])
        return plan

    def refused(self, bakery, lit):
        """Both are refused with TooMuch, of the stretch that wants too much where all other days are dark."""
        stretch = too_much(bakery, other_days(bakery, lit))
        self.assertIsNotNone(stretch)
        for ask in (baked_on, loaf_prices):
            before = repr((bakery, lit))
            with self.assertRaises(TooMuch) as caught:
                ask(bakery, lit)
            self.assertEqual(repr((caught.exception.first, caught.exception.last)), repr(stretch))
            self.assertEqual(repr((bakery, lit)), before)

    def prices_hold(self, bakery, lit, cost):
        """By the told loaf prices the wants, less the gains of the lit days, come to the cost."""
        prices = asked(self, loaf_prices, bakery, lit)
        self.assertEqual([type(each) for each in prices], [list] * len(bakery[2]))
        for each in prices:
            self.assertEqual([type(price) for price in each], [int] * len(bakery[0]))
        wants = sum(want * prices[good][given] for good, given, want in all_wants(bakery))
        self.assertEqual(wants - sum(walked_gain(bakery, prices, day) for day in lit), cost)

    def least(self, bakery, lit):
        """Plan and loaf prices, each held against what the test works out, and against each other."""
        with self.subTest(bakery=bakery, lit=lit):
            if too_much(bakery, other_days(bakery, lit)) is not None:
                self.refused(bakery, lit)
                return False
            plan = self.plan_on(bakery, lit)
            self.assertTrue(is_least(bakery, lit, plan))
            self.prices_hold(bakery, lit, loaves_alone(bakery, plan))
            return True


class LoafCost(unittest.TestCase):
    def cost(self, bakery, plan, cost):
        with self.subTest(bakery=bakery, plan=plan):
            self.assertEqual(repr(asked(self, loaf_cost, bakery, plan)), repr(cost))

    def test_by_hand(self):
        self.cost(three_days(), [(0, 0, 0, 2), (0, 0, 1, 4)], 2 * 5 + 4 * 6)
        self.cost(three_days(), [(1, 0, 0, 2), (1, 0, 1, 4)], 2 * 9 + 4 * 6)
        self.cost(three_days(), [(0, 0, 0, 2), (0, 0, 1, 1), (1, 0, 1, 3)], 2 * 5 + 6 + 3 * 6)

    def test_no_loaves(self):
        self.cost(even_bakery(3, (0, 7, 7, 7), light=7), [], 0)

    def test_it_is_the_cost_without_the_lights(self):
        plan = two_goods_plan()
        self.cost(two_goods(), plan, cost_of(two_goods(), plan) - 100)
        self.cost(replaced(two_goods(), [0], [0, 0, 0, 0]), plan, cost_of(two_goods(), plan) - 100)

    def test_plans_of_chance(self):
        chance = random.Random(201)
        for _ in range(150):
            bakery = random_bakery(chance, chance.randint(1, 8), goods=chance.choice([1, 2]))
            plan = random_plan(chance, bakery)
            self.cost(bakery, plan, loaves_alone(bakery, plan))
            lights = sum(bakery[0][day] for day in {row[0] for row in plan})
            self.assertEqual(cost_of(bakery, plan) - lights, loaf_cost(bakery, plan))

    def test_the_greatest_numbers(self):
        bakery = even_bakery(40, (TOP, TOP, TOP, TOP), light=TOP)
        self.cost(bakery, [(0, 0, given, TOP) for given in range(40)], sum(TOP * TOP * (1 + day) for day in range(40)))

    def test_no_bakery(self):
        check_refuses_no_bakeries(self, loaf_cost, [])


class BakedByHand(Flows):
    def told(self, bakery, lit, plan):
        with self.subTest(bakery=bakery, lit=lit):
            self.assertEqual(repr(asked(self, baked_on, bakery, lit)), repr(plan))
            self.prices_hold(bakery, lit, loaves_alone(bakery, plan))

    def test_one_lit_day(self):
        self.told(three_days(), [0], [(0, 0, 0, 2), (0, 0, 1, 4)])
        self.told(three_days(), [1], [(1, 0, 0, 2), (1, 0, 1, 4)])
        self.refused(three_days(), [2])

    def test_several_lit_days(self):
        bakery = replaced(three_days(), [2, 0, 0, 1, 1], 7)
        self.told(bakery, [0, 1], [(0, 0, 0, 2), (0, 0, 1, 4)])
        self.told(bakery, [0, 1, 2], [(0, 0, 0, 2), (0, 0, 1, 4)])
        bakery = replaced(three_days(), [2, 0, 0, 1, 1], 1)
        self.told(bakery, [0, 1, 2], [(1, 0, 0, 2), (1, 0, 1, 4)])

    def test_the_lights_count_nothing(self):
        day = (1, 5, 1, None)
        self.told(one_good([0, TOP], [day, day]), [0, 1], [(0, 0, 0, 1), (1, 0, 1, 1)])

    def test_a_bound_pushes_loaves_ahead(self):
        days = [(0, 5, 1, None), (0, 5, 1, None), (5, 5, 1, None)]
        bakery = one_good([1, 1, 1], days, bound=2)
        self.told(bakery, [0, 1, 2], [(0, 0, 2, 1), (1, 0, 2, 2), (2, 0, 2, 2)])
        self.told(replaced(bakery, [1], 3), [0, 1, 2], [(1, 0, 2, 2), (2, 0, 2, 3)])
        self.told(replaced(bakery, [1], 3), [0, 2], [(0, 0, 2, 2), (2, 0, 2, 3)])
        self.told(replaced(bakery, [1], 5), [0, 1, 2], [(2, 0, 2, 5)])

    def test_a_bound_lets_wants_wait(self):
        days = [(5, 5, 1, 1), (0, 5, 1, 1), (0, 5, 1, 1)]
        self.told(one_good([1, 1, 1], days, bound=2), [0, 1, 2], [(0, 0, 0, 2), (1, 0, 0, 2), (2, 0, 0, 1)])

    def test_two_goods_share_a_day(self):
        # Of the second good a loaf costs 3 more a day ahead, of the first one 1: so the first one makes room.
        bakery = ([1, 1], 4, [
            ([(0, 5, 1, None), (3, 5, 1, None)], None), ([(0, 5, 3, None), (3, 5, 3, None)], None),
        ])
        self.told(bakery, [0, 1], [(0, 0, 1, 2), (1, 0, 1, 1), (1, 1, 1, 3)])

    def test_loaves_that_move_along_several_days(self):
        # Each want can be baked on its day or the one ahead; the last one's, too many for it, move all the others.
        days = [(0, 0, 1, None), (2, 0, 1, None), (2, 0, 1, None), (3, 0, 1, None)]
        bakery = one_good([1, 1, 1, 1], days, life=1, bound=2)
        plan = [(0, 0, 1, 1), (1, 0, 1, 1), (1, 0, 2, 1), (2, 0, 2, 1), (2, 0, 3, 1), (3, 0, 3, 2)]
        self.told(bakery, [0, 1, 2, 3], plan)

    def test_nothing_wanted(self):
        for bound in (None, 1):
            for goods in (1, 2):
                bakery = even_bakery(3, (0, 1, 1, None), bound=bound, goods=goods)
                for lit in sets_of_days(3):
                    self.told(bakery, lit, [])

    def test_no_lit_days(self):
        self.refused(three_days(), [])
        self.refused(two_goods(), [])
        self.told(one_good([1], [(0, 1, 1, 1)]), [], [])

    def test_one_day(self):
        self.told(one_good([TOP], [(TOP, TOP, TOP, TOP)], bound=TOP), [0], [(0, 0, 0, TOP)])
        self.refused(one_good([TOP], [(TOP, TOP, TOP, TOP)], bound=TOP - 1), [0])
        self.told(even_bakery(1, (2, 1, 1, 1), bound=4, goods=2), [0], [(0, 0, 0, 2), (0, 1, 0, 2)])
        self.refused(even_bakery(1, (2, 1, 1, 1), bound=3, goods=2), [0])


class AgainstAllPlans(Flows):
    def check(self, bakery, plans, lit):
        """How it ends, for a bakery whose plans are all known."""
        these = [plan for plan in plans if all(row[0] in lit for row in plan)]
        with self.subTest(bakery=bakery, lit=lit):
            if not these:
                self.refused(bakery, lit)
                return False
            plan = self.plan_on(bakery, lit)
            cost = min(loaves_alone(bakery, each) for each in these)
            self.assertEqual(loaf_cost(bakery, plan), cost)
            self.prices_hold(bakery, lit, cost)
            return True

    def test_three_days_and_each_set_of_lit_days(self):
        chance = random.Random(202)
        told = {True: 0, False: 0}
        for _ in range(250):
            bakery = tiny_bakery(chance, loaves=5)
            plans = all_plans(bakery)
            for lit in sets_of_days(len(bakery[0])):
                told[self.check(bakery, plans, lit)] += 1
        self.assertGreater(min(told.values()), 300)

    def test_five_days(self):
        chance = random.Random(203)
        told = {True: 0, False: 0}
        for _ in range(120):
            bakery = tiny_bakery(chance, loaves=4, most=5)
            plans = all_plans(bakery)
            for lit in ([], some_days(chance, len(bakery[0])), list(range(len(bakery[0])))):
                told[self.check(bakery, plans, lit)] += 1
        self.assertGreater(min(told.values()), 50)


class OfChance(Flows):
    def test_few_days(self):
        chance = random.Random(204)
        told = {True: 0, False: 0}
        for _ in range(250):
            bakery = some_bakery(chance, chance.randint(1, 8))
            for lit in (list(range(len(bakery[0]))), some_days(chance, len(bakery[0]))):
                told[self.least(bakery, lit)] += 1
        self.assertGreater(min(told.values()), 80)

    def test_great_numbers(self):
        chance = random.Random(205)
        told = {True: 0, False: 0}
        for _ in range(60):
            for goods in (1, 2):
                bakery = great_goods(chance, chance.randint(1, 9), goods)
                days = list(range(len(bakery[0])))
                self.assertTrue(self.least(bakery, days))
                told[self.least(bakery, [day for day in days if chance.random() < 0.8])] += 1
        self.assertGreater(min(told.values()), 20)

    def test_great_numbers_without_a_bound(self):
        chance = random.Random(206)
        for _ in range(60):
            bakery = great_bakery(chance, chance.randint(1, 9))
            self.least(bakery, list(range(len(bakery[0]))))
            self.least(bakery, some_days(chance, len(bakery[0])))

    def test_without_a_bound_each_want_is_baked_where_it_is_cheapest(self):
        chance = random.Random(207)
        for _ in range(100):
            bakery = random_bakery(chance, chance.randint(1, 12), goods=chance.choice([1, 2]))
            lit = list(range(len(bakery[0])))
            cheapest = [want * min(all_prices(bakery, good, given).values()) for good, given, want in all_wants(bakery)]
            self.assertEqual(loaf_cost(bakery, baked_on(bakery, lit)), sum(cheapest))

    def test_many_alike(self):
        for day in [(TOP // 2, 0, 0, 0), (TOP // 2, 1, 1, 1), (TOP // 2 - 1, 3, 0, None), (7, 2, 1, 0)]:
            for bound in (TOP, TOP - 1, 14, None):
                bakery = even_bakery(12, day, bound=bound, goods=2)
                self.least(bakery, list(range(12)))
                self.least(bakery, list(range(0, 12, 2)))


class FortyDays(Flows):
    def test_great_numbers_with_a_bound(self):
        chance = random.Random(208)
        for goods in (1, 2, 2, 2):
            self.assertTrue(self.least(great_goods(chance, 40, goods), list(range(40))))

    def test_great_numbers_without_one(self):
        chance = random.Random(209)
        for _ in range(2):
            lights, bound, goods = great_goods(chance, 40)
            self.assertTrue(self.least((lights, None, goods), list(range(40))))

    def test_ends_apart(self):
        for lit in (list(range(40)), [0, 39], [20]):
            bakery = even_bakery(40, (0, 5, 3, 2), bound=TOP, goods=2)
            bakery[2][0][0][39] = (TOP, 5, 3, 2)
            bakery[2][1][0][0] = (TOP, 7, 3, 2)
            self.least(bakery, lit)

    def test_at_once(self):
        chance = random.Random(210)
        bakeries = [great_goods(chance, 40) for _ in range(3)]
        bakeries.append(even_bakery(40, (TOP // 2, 0, 0, 0), bound=TOP, goods=2))
        for bakery in bakeries:
            start = time.process_time()
            baked_on(bakery, list(range(40)))
            loaf_prices(bakery, list(range(40)))
            # Far above what it takes, far below what going through loaves would.
            self.assertLess(time.process_time() - start, 20)


class Refusals(Flows):
    def test_no_days(self):
        bakeries = [three_days(), even_bakery(3, (1, 1, 1, 1), bound=2, goods=2)]
        # Too much is wanted of the last one, but NoDays goes ahead.
        bakeries.append(even_bakery(3, (9, 1, 1, None), bound=1))
        for lit in NO_DAYS:
            for bakery in bakeries:
                for ask in (baked_on, loaf_prices):
                    before = repr((bakery, lit))
                    with self.subTest(lit=lit):
                        with self.assertRaises(NoDays):
                            ask(bakery, lit)
                        self.assertEqual(repr((bakery, lit)), before)

    def test_things_of_other_kinds_in_a_days_place(self):
        for thing in NO_WHOLE:
            for lit in ([thing], [0, thing], [thing, 2], [0, thing, 2]):
                for ask in (baked_on, loaf_prices):
                    with self.assertRaises(NoDays):
                        ask(three_days(), lit)

    def test_no_bakery_ahead_of_all_else(self):
        for lit in ([], [0], None, [True]):
            check_refuses_no_bakeries(self, baked_on, lit)
            check_refuses_no_bakeries(self, loaf_prices, lit)

    def test_too_much_by_the_first_stretch(self):
        bakery = even_bakery(4, (3, 1, 1, None), life=1, bound=3)
        for lit in sets_of_days(4):
            if len(lit) < 4:
                self.refused(bakery, lit)
        self.assertTrue(self.least(bakery, [0, 1, 2, 3]))

    def test_a_refusal_leaves_nothing_behind(self):
        for lit in NO_DAYS + [[2], []]:
            with self.assertRaises((NoDays, TooMuch)):
                baked_on(three_days(), lit)
            self.assertEqual(baked_on(three_days(), [0]), [(0, 0, 0, 2), (0, 0, 1, 4)])

    def test_changed_in_place_and_asked_again(self):
        bakery, lit = replaced(three_days(), [2, 0, 0, 1, 1], 7), [1]
        self.assertEqual(baked_on(bakery, lit), [(1, 0, 0, 2), (1, 0, 1, 4)])
        lit.insert(0, 0)
        self.assertEqual(baked_on(bakery, lit), [(0, 0, 0, 2), (0, 0, 1, 4)])
        bakery[2][0][0][1] = (0, 6, 2, 5)
        self.assertEqual(baked_on(bakery, lit), [(0, 0, 0, 2)])
        self.prices_hold(bakery, lit, 10)

    def test_all_are_written_in_flows(self):
        for name in ("loaf_cost", "baked_on", "loaf_prices"):
            self.assertEqual(getattr(flows, name).__module__, "bakeahead.flows")


if __name__ == "__main__":
    unittest.main()
