import random
import unittest

from bakeahead import treelook
from bakeahead.bottoms import bottom
from bakeahead.flows import loaf_prices
from bakeahead.plans import cost_of
from bakeahead.toomuch import too_much, wants_too_much
from bakeahead.treelook import lets_tree
from helpers import (
    NO_WHOLE, SIXTY_FIGURES, TOP, Thing, all_plans, asked, check_refuses_no_bakeries, even_bakery, great_goods,
    one_good, other_days, replaced, three_days, tiny_bakery, two_goods,
)

# A cost for which every tree that ends in stretches, and none that has prices, is let by.
SKY = SIXTY_FIGURES


def top_of(bakery, tree, lit, dark):
    """The greatest cost for which a well formed tree is one: SKY for any, None where it isn't for any."""
    if tree[0] == "split":
        word, day, darker, lighter = tree
        if day in lit or day in dark:
            return None
        tops = [top_of(bakery, darker, lit, sorted(dark + [day])), top_of(bakery, lighter, sorted(lit + [day]), dark)]
        return None if None in tops else min(tops)
    if tree[0] == "stretch":
        return SKY if wants_too_much(bakery, dark, tree[1:]) else None
    return bottom(bakery, tree[1], lit, dark)


def random_leaf(chance, bakery, dark):
    """A stretch, perhaps one that wants too much, or prices, perhaps good ones."""
    days = range(len(bakery[0]))
    stretch = too_much(bakery, dark)
    if stretch is not None and chance.random() < 0.9:
        return ("stretch",) + stretch
    if chance.random() < 0.05:
        return ("stretch",) + tuple(sorted([chance.choice(days), chance.choice(days)]))
    if stretch is None and chance.random() < 0.8:
        return ("prices", loaf_prices(bakery, other_days(bakery, dark)))
    return ("prices", [[chance.randint(-3, 9) for _ in days] for _ in bakery[2]])


def random_tree(chance, bakery, lit, dark):
    free = [day for day in range(len(bakery[0])) if day not in lit + dark]
    if not free or chance.random() < 0.3:
        return random_leaf(chance, bakery, dark)
    day = chance.choice(free)
    darker = random_tree(chance, bakery, lit, sorted(dark + [day]))
    return ("split", day, darker, random_tree(chance, bakery, sorted(lit + [day]), dark))


class Trees(unittest.TestCase):
    def lets(self, bakery, cost, thing):
        with self.subTest(bakery=bakery, cost=cost, thing=thing):
            self.assertIs(asked(self, lets_tree, bakery, cost, thing), True)

    def refuses(self, bakery, cost, thing):
        with self.subTest(bakery=bakery, cost=cost, thing=thing):
            self.assertIs(asked(self, lets_tree, bakery, cost, thing), False)


def tight():
    """Two days, each with two loaves wanted, that can't be kept nor wait, and no more than two baked on a day."""
    return one_good([10, 20], [(2, 3, 1, None), (2, 5, 1, None)], life=0, bound=2)


class Prices(Trees):
    def test_the_bottom_is_the_cost_one_more_one_less(self):
        for prices, told in [([[0, 0, 0]], 0), ([[9, 9, 0]], 44), ([[-1, -2, 5]], -10), ([[5, 6, 0]], 34)]:
            self.assertEqual(bottom(three_days(), prices, [], []), told)
            self.lets(three_days(), told - 1, ("prices", prices))
            self.lets(three_days(), told, ("prices", prices))
            self.refuses(three_days(), told + 1, ("prices", prices))
            self.lets(three_days(), -SKY, ("prices", prices))
            self.refuses(three_days(), SKY, ("prices", prices))

    def test_two_goods(self):
        prices = [[9, 8, 7, 6], [1, 2, 9, 4]]
        told = bottom(two_goods(), prices, [], [])
        self.lets(two_goods(), told, ("prices", prices))
        self.refuses(two_goods(), told + 1, ("prices", prices))

    def test_no_loaf_prices(self):
        for thing in NO_WHOLE + [0, ([0, 0, 0],), [(0, 0, 0)], [0, 0, 0], [[0, 0]], [[0, 0, 0, 0]], [[0, 0, 0]] * 2,
                                 [[0, True, 0]], [[0, None, 0]], [["0", 0, 0]], [[]], [[[0, 0, 0]]], [None]]:
            self.refuses(three_days(), -SKY, ("prices", thing))
        self.lets(three_days(), 0, ("prices", [[0, 0, 0]]))

    def test_too_few_and_too_many_parts(self):
        for thing in [("prices",), ("prices", [[0, 0, 0]], [[0, 0, 0]]), ("prices", [[0, 0, 0]], None), ()]:
            self.refuses(three_days(), -SKY, thing)


class Stretches(Trees):
    def test_without_dark_days(self):
        bakery = replaced(tight(), [1], 1)
        for cost in (-SKY, 0, SKY):
            self.lets(bakery, cost, ("stretch", 0, 0))
            self.lets(bakery, cost, ("stretch", 1, 1))
            self.lets(bakery, cost, ("stretch", 0, 1))
            self.refuses(tight(), cost, ("stretch", 0, 0))
            self.refuses(tight(), cost, ("stretch", 0, 1))

    def test_by_the_dark_days_only(self):
        # It doesn't matter for a stretch which days are lit.
        zero = ("prices", [[0, 0]])
        self.lets(tight(), 0, ("split", 0, ("stretch", 0, 0), zero))
        self.lets(tight(), 0, ("split", 0, ("stretch", 0, 1), zero))
        self.refuses(tight(), 0, ("split", 0, ("stretch", 1, 1), zero))
        self.refuses(tight(), 0, ("split", 0, zero, ("stretch", 0, 0)))
        self.refuses(tight(), 0, ("split", 0, zero, ("stretch", 1, 1)))
        self.lets(tight(), 0, ("split", 0, zero, ("split", 1, ("stretch", 1, 1), zero)))

    def test_what_are_no_stretches(self):
        bakery = replaced(tight(), [1], 1)
        for first, last in [(1, 0), (0, 2), (-1, 0), (0, -1), (-2, -1), (2, 2), (False, 0), (0, False), (0, True),
                            (True, True), (0, SKY), (None, None), ("0", "0"), ([0], [0]), ((0,), (0,))]:
            self.refuses(bakery, -SKY, ("stretch", first, last))
        for thing in NO_WHOLE:
            self.refuses(bakery, -SKY, ("stretch", 0, thing))
            self.refuses(bakery, -SKY, ("stretch", thing, 0))

    def test_too_few_and_too_many_parts(self):
        bakery = replaced(tight(), [1], 1)
        for thing in [("stretch",), ("stretch", 0), ("stretch", 0, 0, 0), ("stretch", (0, 0)), ("stretch", 0, 0, None)]:
            self.refuses(bakery, -SKY, thing)


class Splits(Trees):
    def test_by_hand(self):
        # On both days something has to be baked: 2 * 3 + 2 * 5, and both lights.
        told = ("prices", [[3, 5]])
        self.lets(tight(), 16, told)
        self.refuses(tight(), 17, told)
        tree = ("split", 0, ("stretch", 0, 0), told)
        self.lets(tight(), 26, tree)
        self.refuses(tight(), 27, tree)
        both = ("split", 1, ("stretch", 1, 1), tree)
        self.lets(tight(), 46, both)
        self.refuses(tight(), 47, both)

    def test_either_side_is_read(self):
        good, bad = ("prices", [[3, 5]]), ("prices", [[3, 4]])
        self.lets(tight(), 16, ("split", 0, good, good))
        self.refuses(tight(), 16, ("split", 1, bad, good))
        self.lets(tight(), 16, ("split", 1, good, bad))
        self.refuses(tight(), 35, ("split", 1, good, bad))
        self.refuses(tight(), 16, ("split", 0, good, None))
        self.refuses(tight(), 16, ("split", 0, None, good))

    def test_dark_stands_ahead_of_lit(self):
        tree = ("split", 0, ("stretch", 0, 0), ("prices", [[3, 5]]))
        self.lets(tight(), 26, tree)
        self.refuses(tight(), 0, ("split", 0, tree[3], tree[2]))

    def test_a_day_that_is_lit_or_dark_already(self):
        leaf = ("prices", [[0, 0]])
        for day in (0, 1):
            inner = ("split", day, leaf, leaf)
            self.lets(tight(), 0, inner)
            self.refuses(tight(), -SKY, ("split", day, inner, leaf))
            self.refuses(tight(), -SKY, ("split", day, leaf, inner))
            self.lets(tight(), 0, ("split", 1 - day, inner, inner))
            self.refuses(tight(), -SKY, ("split", 1 - day, ("split", day, leaf, inner), leaf))
            self.refuses(tight(), -SKY, ("split", day, ("split", 1 - day, inner, leaf), leaf))

    def test_a_day_that_is_none(self):
        leaf = ("prices", [[0, 0]])
        for day in NO_WHOLE + [2, 3, -1, -2, 40, SKY, -SKY, "0", [0], (0,)]:
            self.refuses(tight(), -SKY, ("split", day, leaf, leaf))
        self.lets(tight(), 0, ("split", 1, leaf, leaf))

    def test_too_few_and_too_many_parts(self):
        leaf = ("prices", [[0, 0]])
        for thing in [("split",), ("split", 0), ("split", 0, leaf), ("split", 0, leaf, leaf, leaf),
                      ("split", leaf, leaf), ("split", 0, (leaf, leaf)), ("split", 0, leaf, leaf, None)]:
            self.refuses(tight(), -SKY, thing)


class OtherThings(Trees):
    def test_other_kinds(self):
        for thing in NO_WHOLE + [0, 1, Thing(), "split", "prices", "stretch", ("tree",), ((),), [()]]:
            for cost in (-SKY, 0, SKY):
                self.refuses(three_days(), cost, thing)
                self.refuses(replaced(tight(), [1], 1), cost, thing)

    def test_a_list_in_a_tuples_place(self):
        leaf = ("prices", [[0, 0]])
        self.refuses(tight(), -SKY, ["prices", [[0, 0]]])
        self.refuses(replaced(tight(), [1], 1), -SKY, ["stretch", 0, 0])
        self.refuses(tight(), -SKY, ["split", 0, leaf, leaf])
        self.refuses(tight(), -SKY, ("split", 0, list(leaf), leaf))
        self.refuses(tight(), -SKY, ("split", 0, leaf, list(leaf)))

    def test_other_first_words(self):
        leaf = ("prices", [[0, 0]])
        odd = NO_WHOLE + ["Split", "splits", "split ", " split", "prices\n", "PRICES", "price", "stretches", "spli"]
        for word in odd + ["prices", "stretch"]:
            self.refuses(tight(), -SKY, (word, 0, leaf, leaf))
        for word in odd + ["split", "stretch"]:
            self.refuses(tight(), -SKY, (word, [[0, 0]]))
        for word in odd + ["split", "prices"]:
            self.refuses(replaced(tight(), [1], 1), -SKY, (word, 0, 0))
        for word in (b"prices", ["prices"], ("prices",)):
            self.refuses(tight(), -SKY, (word, [[0, 0]]))

    def test_wrong_far_within(self):
        chance = random.Random(231)
        bakery = even_bakery(6, (1, 1, 1, None))
        for _ in range(40):
            tree = ("prices", chance.choice([[[0] * 5], [[0] * 5 + [True]], ([0] * 6,)]))
            days = list(range(6))
            chance.shuffle(days)
            for day in days[:5]:
                leaf = ("prices", [[0] * 6])
                tree = chance.choice([("split", day, leaf, tree), ("split", day, tree, leaf)])
            self.refuses(bakery, -SKY, tree)

    def test_no_bakery_ahead_of_all_else(self):
        for thing in (None, ("prices", [[0, 0, 0]]), ("stretch", 0, 0)):
            check_refuses_no_bakeries(self, lets_tree, 0, thing)

    def test_it_is_written_in_treelook(self):
        self.assertEqual(lets_tree.__module__, "bakeahead.treelook")
        self.assertIs(treelook.lets_tree, lets_tree)


class Deep(Trees):
    def test_as_deep_as_there_are_days(self):
        # Every day is needed for its own want, so it can't be dark.
        for many in (1, 2, 7, 18):
            bakery = even_bakery(many, (1, 2, 1, None), light=5, life=0)
            tree = ("prices", [[2] * many])
            for day in range(many):
                tree = ("split", day, ("stretch", day, day), tree)
            self.lets(bakery, 7 * many, tree)
            self.refuses(bakery, 7 * many + 1, tree)
            self.refuses(bakery, -SKY, ("split", 0, ("stretch", 0, 0), tree))

    def test_all_sets_of_days(self):
        bakery = even_bakery(5, (1, 2, 1, 1), light=5, bound=3)
        tree = ("prices", [[2] * 5])
        for day in range(5):
            tree = ("split", day, tree, tree)
        self.lets(bakery, 10, tree)
        self.refuses(bakery, 11, tree)

    def test_forty_days(self):
        chance = random.Random(232)
        bakery = great_goods(chance, 40)
        tree = ("prices", loaf_prices(bakery, list(range(40))))
        for day in range(10):
            tree = ("split", day, tree, ("prices", [[TOP] * 40, [3] * 40]))
        top = top_of(bakery, tree, [], [])
        self.assertIsNotNone(top)
        self.lets(bakery, top, tree)
        self.refuses(bakery, top + 1, tree)


class AgainstAllPlans(Trees):
    def test_no_plan_costs_less(self):
        chance = random.Random(233)
        told = {"none": 0, "sky": 0, "met": 0, "less": 0}
        for _ in range(600):
            bakery = tiny_bakery(chance)
            costs = [cost_of(bakery, plan) for plan in all_plans(bakery)]
            tree = random_tree(chance, bakery, [], [])
            top = top_of(bakery, tree, [], [])
            if top is None:
                self.refuses(bakery, -SKY, tree)
                told["none"] += 1
                continue
            self.lets(bakery, top, tree)
            with self.subTest(bakery=bakery, tree=tree):
                self.assertTrue(all(cost >= top for cost in costs))
            if top == SKY:
                told["sky"] += 1
                continue
            self.refuses(bakery, top + 1, tree)
            told["met" if top in costs else "less"] += 1
        self.assertGreater(min(told.values()), 20)

    def test_changed_in_place_and_asked_again(self):
        prices = [[3, 5]]
        tree = ("prices", prices)
        self.lets(tight(), 16, tree)
        prices[0][0] = 2
        self.refuses(tight(), 16, tree)
        prices[0][0] = 3
        self.lets(tight(), 16, tree)


if __name__ == "__main__":
    unittest.main()
