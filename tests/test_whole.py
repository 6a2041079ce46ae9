"""What is promised over the whole program: one bakery, by all ways."""

import random
import unittest

from bakeahead.cheapest import cheapest
from bakeahead.desk import Desk
from bakeahead.doughs import dough_cost, fits_doughs
from bakeahead.flows import baked_on, loaf_cost
from bakeahead.ladderlook import lets_ladder
from bakeahead.ladders import cheapest_doughs
from bakeahead.ledger import Ledger
from bakeahead.plans import cost_of, fits, lit_days
from bakeahead.pricelook import lets_prices
from bakeahead.prices import prices_of
from bakeahead.replays import replayed
from bakeahead.rows import least_row
from bakeahead.settled import settled
from bakeahead.steady import is_steady, last_lits
from bakeahead.texts import read_bakery, read_plan, show_bakery, show_plan
from bakeahead.toomuch import too_much
from bakeahead.treelook import lets_tree
from bakeahead.trees import cheapest_tree
from helpers import (
    TOP, even_bakery, great_bakery, great_goods, least_by_all_sets, random_bakery, random_steady, replaced, some_bakery,
    three_days,
)


def told_to_a_desk(bakery):
    """A desk that keeps the plain bakery by the name of a."""
    lights, bound, goods = bakery
    days, life = goods[0]
    desk = Desk()
    for at, (light, day) in enumerate(zip(lights, days)):
        head = ["add a"] if at else ["make a", "-" if life is None else str(life)]
        desk.say(" ".join(head + ["-" if part is None else str(part) for part in (light,) + day]))
    return desk


class Whole(unittest.TestCase):
    def plan_holds(self, bakery, plan, cost):
        """The plan fits; replayed, its days come to its cost; it is written and read back."""
        self.assertIs(fits(bakery, plan), True)
        self.assertEqual(cost_of(bakery, plan), cost)
        self.assertEqual(sum(day[5] for day in replayed(bakery, plan)), cost)
        self.assertEqual([at for at, day in enumerate(replayed(bakery, plan)) if day[0]], lit_days(plan))
        lights = sum(bakery[0][day] for day in lit_days(plan))
        self.assertEqual(loaf_cost(bakery, plan) + lights, cost)
        self.assertLessEqual(len(show_plan(plan)), 4000)
        self.assertEqual(repr(read_plan(bakery, show_plan(plan))), repr(plan))

    def by_row_plan_and_prices(self, bakery, cost):
        self.assertEqual(least_row(bakery)[-1], cost)
        self.plan_holds(bakery, cheapest(bakery), cost)
        prices = prices_of(bakery)
        self.assertIs(lets_prices(bakery, prices), True)
        self.assertEqual(sum(prices), cost)

    def by_the_tree(self, bakery, cost):
        """Of at most six days, with no bound, and with one of all wants together."""
        wants = sum(day[0] for day in bakery[2][0][0])
        for bound in (None, min(TOP, max(1, wants))):
            bounded = replaced(bakery, [1], bound)
            if bound is None or wants <= TOP:
                plan, tree = cheapest_tree(bounded)
                self.plan_holds(bounded, plan, cost)
                self.assertIs(lets_tree(bounded, cost, tree), True)
                self.assertIs(lets_tree(bounded, cost + 1, tree), False)

    def by_the_doughs(self, bakery, cost):
        """Of at most twelve days, with doughs that cost nothing."""
        doughs = [(0, 0, 0)] * len(bakery[0])
        plan, ladder = cheapest_doughs(bakery, doughs)
        self.assertIs(fits_doughs(bakery, doughs, plan), True)
        self.assertEqual(dough_cost(bakery, doughs, plan), cost)
        self.assertIs(lets_ladder(bakery, doughs, ladder), True)
        self.assertEqual(ladder[0][-1], cost)

    def by_ledger_and_desk(self, bakery, cost):
        ledger = Ledger(bakery)
        self.assertEqual(ledger.costs()[-1], cost)
        self.plan_holds(bakery, ledger.plan(), cost)
        self.assertEqual(sum(ledger.prices()), cost)
        self.assertEqual(read_bakery(str(ledger)), bakery)
        desk = told_to_a_desk(bakery)
        self.assertEqual(desk.say("least a"), str(cost))
        self.assertEqual(desk.say("row a"), " ".join(str(number) for number in least_row(bakery)))
        if is_steady(bakery):
            many, lit = settled(bakery)
            self.assertEqual(desk.say("settled a"), " ".join(str(number) for number in [many] + lit))
            last = last_lits(bakery)[-1]
            self.assertEqual(desk.say("last a"), "-" if last is None else str(last))

    def all_ways(self, bakery):
        with self.subTest(bakery=bakery):
            cost = least_row(bakery)[-1]
            self.by_row_plan_and_prices(bakery, cost)
            self.by_ledger_and_desk(bakery, cost)
            if len(bakery[0]) <= 6:
                self.assertEqual(least_by_all_sets(bakery), cost)
                self.by_the_tree(bakery, cost)
            if len(bakery[0]) <= 12:
                self.by_the_doughs(bakery, cost)
            self.assertEqual(repr(read_bakery(show_bakery(bakery))), repr(bakery))


class OneCost(Whole):
    def test_by_hand(self):
        self.all_ways(three_days())
        for day in [(0, 1, 1, 1), (1, 1, 1, None), (5, 0, 0, 0), (TOP, TOP, TOP, TOP)]:
            for many in (1, 2, 6):
                self.all_ways(even_bakery(many, day, light=7))

    def test_small_ones(self):
        chance = random.Random(311)
        for _ in range(70):
            self.all_ways(random_bakery(chance, chance.randint(1, 6)))
            self.all_ways(random_steady(chance, chance.randint(1, 6)))

    def test_great_ones(self):
        chance = random.Random(312)
        for _ in range(50):
            self.all_ways(great_bakery(chance, chance.randint(1, 6)))

    def test_more_days(self):
        chance = random.Random(313)
        for many in (7, 12, 13, 40):
            self.all_ways(random_bakery(chance, many))
            self.all_ways(great_bakery(chance, many))
            self.all_ways(random_steady(chance, many))

    def test_settled_by_the_tree(self):
        # Whatever comes behind, the settled days and the others come to the least cost, each alone.
        chance = random.Random(314)
        met = 0
        for _ in range(120):
            bakery = random_steady(chance, chance.randint(2, 4))
            many, lit = settled(bakery)
            more = random_bakery(chance, 2)
            lights = bakery[0] + more[0]
            days = bakery[2][0][0] + more[2][0][0]
            whole = (lights, None, [(days, bakery[2][0][1])])
            rest = (lights[many:], None, [(days[many:], bakery[2][0][1])])
            plan, tree = cheapest_tree(whole)
            alone = least_row(bakery)[many] + cost_of(rest, cheapest_tree(rest)[0])
            self.assertEqual(cost_of(whole, plan), alone)
            met += many > 0
        self.assertGreater(met, 30)


class TwoGoods(Whole):
    def test_each_told_plan_holds(self):
        chance = random.Random(315)
        met = 0
        for _ in range(80):
            bakery = some_bakery(chance, chance.randint(1, 6))
            if too_much(bakery, []) is None:
                plan, tree = cheapest_tree(bakery)
                cost = cost_of(bakery, plan)
                self.plan_holds(bakery, plan, cost)
                self.assertIs(lets_tree(bakery, cost, tree), True)
                all_lit = baked_on(bakery, list(range(len(bakery[0]))))
                self.plan_holds(bakery, all_lit, cost_of(bakery, all_lit))
                self.assertLessEqual(cost, cost_of(bakery, all_lit))
                met += 1
        self.assertGreater(met, 40)

    def test_at_great_numbers(self):
        chance = random.Random(316)
        for many in (1, 3, 6):
            for goods in (1, 2):
                bakery = great_goods(chance, many, goods)
                plan, tree = cheapest_tree(bakery)
                self.plan_holds(bakery, plan, cost_of(bakery, plan))
                self.assertEqual(repr(read_bakery(show_bakery(bakery))), repr(bakery))

    def test_two_goods_without_a_bound_cost_no_more_than_each_alone(self):
        chance = random.Random(317)
        for _ in range(40):
            lights, bound, goods = random_bakery(chance, chance.randint(1, 6), goods=2)
            plan, tree = cheapest_tree((lights, bound, goods))
            together = cost_of((lights, bound, goods), plan)
            alone = [least_row((lights, None, [good]))[-1] for good in goods]
            self.assertLessEqual(together, sum(alone))
            self.assertGreaterEqual(together, max(alone))
            free = [least_row(([0] * len(lights), None, [good]))[-1] for good in goods]
            self.assertGreaterEqual(together, sum(free))


if __name__ == "__main__":
    unittest.main()
