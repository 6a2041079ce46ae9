import copy
import random
import unittest

from bakeahead import plans
from bakeahead.plans import cost_of, fits, lit_days
from helpers import (
    NO_WHOLE, SIXTY_FIGURES, TOP, asked, check_refuses_no_bakeries, even_bakery, one_good, random_bakery, random_plan,
    replaced, three_days, two_goods, two_goods_plan, walked_price,
)


def with_row(plan, row):
    return sorted(plan + [row])


def without_row(plan, at):
    return plan[:at] + plan[at + 1:]


class Fitting(unittest.TestCase):
    def fit(self, bakery, thing):
        with self.subTest(bakery=bakery, thing=thing):
            self.assertIs(asked(self, fits, bakery, thing), True)

    def bent(self, bakery, thing):
        with self.subTest(bakery=bakery, thing=thing):
            self.assertIs(asked(self, fits, bakery, thing), False)


class PlansThatFit(Fitting):
    def test_by_hand(self):
        self.fit(two_goods(), two_goods_plan())
        self.fit(three_days(), [(0, 0, 0, 2), (0, 0, 1, 4)])
        self.fit(three_days(), [(1, 0, 0, 2), (1, 0, 1, 4)])
        self.fit(three_days(), [(0, 0, 0, 1), (0, 0, 1, 1), (1, 0, 0, 1), (1, 0, 1, 3)])

    def test_nothing_where_nothing_is_wanted(self):
        for many in (1, 3, 40):
            for bound in (None, 1):
                for goods in (1, 2):
                    self.fit(even_bakery(many, (0, 1, 1, None), bound=bound, goods=goods), [])

    def test_just_the_bound(self):
        bakery = even_bakery(2, (3, 1, 1, 1), bound=6)
        self.fit(bakery, [(0, 0, 0, 3), (0, 0, 1, 3)])
        self.fit(replaced(bakery, [1], 3), [(0, 0, 0, 3), (1, 0, 1, 3)])
        self.fit(replaced(two_goods(), [1], 8), two_goods_plan())

    def test_forty_days_of_the_greatest_numbers(self):
        bakery = even_bakery(40, (TOP, TOP, TOP, TOP), light=TOP, bound=TOP, life=40)
        self.fit(bakery, [(day, 0, day, TOP) for day in range(40)])
        self.fit(bakery, [(day, 0, 39 - day, TOP) for day in range(40)])
        self.fit(replaced(bakery, [1], None), [(0, 0, day, TOP) for day in range(40)])

    def test_many_of_chance(self):
        chance = random.Random(4)
        for many in (1, 2, 4, 6) * 10:
            bakery = random_bakery(chance, many, goods=chance.choice([1, 2]))
            self.fit(bakery, random_plan(chance, bakery))


class BentPlans(Fitting):
    def test_a_loaf_more_or_less(self):
        for at, (baked, good, given, many) in enumerate(two_goods_plan()):
            self.bent(two_goods(), replaced(two_goods_plan(), [at, 3], many + 1))
            self.bent(two_goods(), replaced(two_goods_plan(), [at, 3], many - 1))

    def test_a_row_left_out(self):
        for at in range(8):
            self.bent(two_goods(), without_row(two_goods_plan(), at))
        self.bent(two_goods(), [])

    def test_a_row_twice(self):
        for row in two_goods_plan():
            self.bent(two_goods(), with_row(two_goods_plan(), row))

    def test_a_row_twice_with_half_the_loaves(self):
        bakery = even_bakery(1, (2, 1, 1, None))
        self.fit(bakery, [(0, 0, 0, 2)])
        self.bent(bakery, [(0, 0, 0, 1), (0, 0, 0, 1)])

    def test_a_row_parted_into_two(self):
        for at, (baked, good, given, many) in enumerate(two_goods_plan()):
            if many > 1:
                rest = without_row(two_goods_plan(), at)
                parted = with_row(with_row(rest, (baked, good, given, 1)), (baked, good, given, many - 1))
                self.bent(two_goods(), parted)

    def test_out_of_order(self):
        plan = two_goods_plan()
        self.bent(two_goods(), plan[::-1])
        for at in range(7):
            self.bent(two_goods(), plan[:at] + [plan[at + 1], plan[at]] + plan[at + 2:])
        self.bent(two_goods(), plan[1:] + plan[:1])

    def test_out_of_order_at_each_place_of_a_row(self):
        bakery = even_bakery(2, (1, 1, 1, 1), goods=2)
        self.bent(bakery, [(0, 0, 1, 1), (0, 0, 0, 1), (0, 1, 0, 1), (0, 1, 1, 1)])
        self.bent(bakery, [(0, 1, 0, 1), (0, 0, 0, 1), (0, 0, 1, 1), (0, 1, 1, 1)])
        self.bent(bakery, [(1, 0, 0, 1), (0, 0, 1, 1), (0, 1, 0, 1), (0, 1, 1, 1)])

    def test_given_to_another_day_or_good(self):
        for at, (baked, good, given, many) in enumerate(two_goods_plan()):
            rest = without_row(two_goods_plan(), at)
            heads = [row[:3] for row in rest]
            for other in range(4):
                if other != given and (baked, good, other) not in heads:
                    self.bent(two_goods(), with_row(rest, (baked, good, other, many)))
            if (baked, 1 - good, given) not in heads:
                self.bent(two_goods(), with_row(rest, (baked, 1 - good, given, many)))

    def test_a_loaf_from_one_want_to_another(self):
        bakery = even_bakery(2, (2, 1, 1, 1), goods=2)
        plan = [(0, 0, 0, 2), (0, 0, 1, 2), (0, 1, 0, 2), (0, 1, 1, 2)]
        self.fit(bakery, plan)
        for at in range(4):
            for other in range(4):
                if at != other:
                    self.bent(bakery, replaced(replaced(plan, [at, 3], 3), [other, 3], 1))

    def test_baked_on_a_day_without_a_price(self):
        self.bent(three_days(), [(0, 0, 0, 2), (2, 0, 1, 4)])
        self.bent(three_days(), [(0, 0, 1, 4), (2, 0, 0, 2)])
        self.bent(even_bakery(3, (1, 1, 1, None), life=1), [(0, 0, 0, 1), (0, 0, 1, 1), (0, 0, 2, 1)])
        self.fit(even_bakery(3, (1, 1, 1, None), life=2), [(0, 0, 0, 1), (0, 0, 1, 1), (0, 0, 2, 1)])
        self.bent(even_bakery(2, (1, 1, 1, None)), [(1, 0, 0, 1), (1, 0, 1, 1)])
        self.fit(even_bakery(2, (1, 1, 1, 0)), [(1, 0, 0, 1), (1, 0, 1, 1)])

    def test_more_on_a_day_than_the_bound(self):
        self.bent(replaced(two_goods(), [1], 7), two_goods_plan())
        bakery = even_bakery(2, (3, 1, 1, 1), bound=5)
        self.bent(bakery, [(0, 0, 0, 3), (0, 0, 1, 3)])
        self.bent(bakery, [(1, 0, 0, 3), (1, 0, 1, 3)])
        self.bent(even_bakery(1, (3, 1, 1, 1), bound=5, goods=2), [(0, 0, 0, 3), (0, 1, 0, 3)])
        self.bent(even_bakery(1, (1, 1, 1, 1), bound=1, goods=2), [(0, 0, 0, 1), (0, 1, 0, 1)])

    def test_none_or_less_loaves(self):
        for bakery, plan in [(two_goods(), two_goods_plan()), (even_bakery(2, (0, 1, 1, 1)), [])]:
            self.bent(bakery, with_row(plan, (1, 0, 1, 0)))
            self.bent(bakery, with_row(plan, (1, 0, 1, -1)))
        bakery = even_bakery(2, (1, 1, 1, 1))
        self.bent(bakery, [(0, 0, 0, 2), (0, 0, 1, 1), (1, 0, 0, -1)])
        self.bent(bakery, [(0, 0, 0, 1), (0, 0, 1, 1), (1, 0, 0, 0)])
        self.bent(bakery, [(0, 0, 0, 1 + SIXTY_FIGURES), (0, 0, 1, 1), (1, 0, 0, -SIXTY_FIGURES)])

    def test_days_and_goods_that_are_none(self):
        bakery = even_bakery(2, (1, 1, 1, 1), goods=2)
        plan = [(0, 0, 0, 1), (0, 0, 1, 1), (0, 1, 0, 1), (1, 1, 1, 1)]
        self.fit(bakery, plan)
        for at in range(4):
            for place in range(3):
                for thing in (-1, -2, 2, 3, SIXTY_FIGURES, -SIXTY_FIGURES):
                    self.bent(bakery, sorted(replaced(plan, [at, place], thing)))

    def test_a_row_more_of_a_day_or_good_that_is_none(self):
        for row in [(4, 0, 0, 1), (0, 2, 0, 1), (0, 0, 4, 1), (-1, 0, 0, 1), (0, -1, 0, 1), (0, 0, -1, 1)]:
            self.bent(two_goods(), with_row(two_goods_plan(), row))

    def test_the_plan_of_another_bakery(self):
        self.bent(three_days(), two_goods_plan())
        self.bent(two_goods(), [(0, 0, 0, 2), (0, 0, 1, 4)])


class ThingsThatAreNoPlans(Fitting):
    def test_truths_in_place_of_numbers(self):
        bakery = even_bakery(2, (1, 1, 1, 1), goods=2)
        plan = [(0, 0, 0, 1), (0, 0, 1, 1), (1, 1, 0, 1), (1, 1, 1, 1)]
        self.fit(bakery, plan)
        for at, row in enumerate(plan):
            for place, number in enumerate(row):
                self.bent(bakery, replaced(plan, [at, place], bool(number)))

    def test_things_of_other_kinds_in_place_of_numbers(self):
        for at in (0, 4, 7):
            for place in range(4):
                for thing in NO_WHOLE:
                    self.bent(two_goods(), replaced(two_goods_plan(), [at, place], thing))

    def test_lists_in_place_of_tuples(self):
        for at, row in enumerate(two_goods_plan()):
            self.bent(two_goods(), replaced(two_goods_plan(), [at], list(row)))
        self.bent(two_goods(), [list(row) for row in two_goods_plan()])

    def test_a_tuple_in_place_of_the_list(self):
        self.bent(two_goods(), tuple(two_goods_plan()))
        self.bent(even_bakery(2, (0, 1, 1, 1)), ())

    def test_tuples_of_three_and_five(self):
        for at, row in enumerate(two_goods_plan()):
            for wrong in (row[:3], row[1:], row + (1,), row + row, (), (row,)):
                self.bent(two_goods(), replaced(two_goods_plan(), [at], wrong))

    def test_other_things_as_rows(self):
        for thing in NO_WHOLE + [0, 1, -1]:
            for at in (0, 3, 7):
                self.bent(two_goods(), replaced(two_goods_plan(), [at], thing))
            self.bent(even_bakery(2, (0, 1, 1, 1)), [thing])

    def test_other_things_as_plans(self):
        for thing in NO_WHOLE + [0, 1, -1, SIXTY_FIGURES, "(0, 0, 0, 1)", (0, 0, 0, 1), {(0, 0, 0, 1): 1}]:
            self.bent(two_goods(), thing)
            if thing != []:
                self.bent(even_bakery(2, (0, 1, 1, 1)), thing)

    def test_nested_things(self):
        deep = []
        for _ in range(18):
            deep = [deep]
        self.bent(two_goods(), deep)
        self.bent(two_goods(), [tuple(two_goods_plan())])
        self.bent(two_goods(), [two_goods_plan()])


def fits_by_hand(bakery, plan):
    """Whether rows of whole numbers fit, reckoned otherwise: by sorting, and by counting for each want."""
    lights, bound, goods = bakery
    days = range(len(lights))
    if plan != sorted(plan) or len({row[:3] for row in plan}) != len(plan):
        return False
    for baked, good, given, many in plan:
        if baked not in days or given not in days or good not in range(len(goods)) or many < 1:
            return False
        if walked_price(bakery, good, baked, given) is None:
            return False
    for good in range(len(goods)):
        for day in days:
            if sum(row[3] for row in plan if row[1:3] == (good, day)) != goods[good][0][day][0]:
                return False
    return bound is None or all(sum(row[3] for row in plan if row[0] == day) <= bound for day in days)


class PlansOfChance(unittest.TestCase):
    def test_plans_bent_by_chance(self):
        chance = random.Random(5)
        told = {True: 0, False: 0}
        for _ in range(600):
            bakery = random_bakery(chance, chance.randint(1, 4), goods=chance.choice([1, 2]))
            plan = random_plan(chance, bakery)
            if chance.random() < 0.5:
                bakery = replaced(bakery, [1], chance.randint(1, 9))
            if plan and chance.random() < 0.5:
                at, place = chance.randrange(len(plan)), chance.randrange(4)
                plan = sorted(replaced(plan, [at, place], plan[at][place] + chance.choice([-1, 1])))
            self.assertIs(fits(bakery, plan), fits_by_hand(bakery, plan))
            told[fits(bakery, plan)] += 1
        self.assertGreater(min(told.values()), 50)


class Costs(unittest.TestCase):
    def test_by_hand(self):
        self.assertEqual(cost_of(two_goods(), two_goods_plan()), 254)
        self.assertEqual(cost_of(three_days(), [(0, 0, 0, 2), (0, 0, 1, 4)]), 10 + 2 * 5 + 4 * 6)
        self.assertEqual(cost_of(three_days(), [(1, 0, 0, 2), (1, 0, 1, 4)]), 20 + 2 * 9 + 4 * 6)

    def test_nothing_costs_nothing(self):
        self.assertEqual(repr(cost_of(even_bakery(3, (0, 1, 1, 1), light=9), [])), "0")

    def test_each_lit_day_once(self):
        bakery = even_bakery(3, (2, 0, 0, 0), light=7, goods=2)
        on_one = [(1, good, day, 2) for good in (0, 1) for day in range(3)]
        self.assertEqual(cost_of(bakery, on_one), 7)
        on_three = [(day, good, day, 2) for day in range(3) for good in (0, 1)]
        self.assertEqual(cost_of(bakery, on_three), 21)

    def test_the_greatest_numbers(self):
        bakery = even_bakery(40, (TOP, TOP, TOP, TOP), light=TOP)
        self.assertEqual(cost_of(bakery, [(0, 0, day, TOP) for day in range(40)]), TOP + TOP * TOP * 820)
        self.assertEqual(cost_of(bakery, [(39, 0, day, TOP) for day in range(40)]), TOP + TOP * TOP * 820)

    def test_against_a_walk_of_each_loaf(self):
        chance = random.Random(6)
        for many in (1, 2, 4, 6) * 10:
            bakery = random_bakery(chance, many, goods=chance.choice([1, 2]))
            plan = random_plan(chance, bakery)
            lights = sum(bakery[0][day] for day in {row[0] for row in plan})
            loaves = sum(row[3] * walked_price(bakery, row[1], row[0], row[2]) for row in plan)
            self.assertEqual(asked(self, cost_of, bakery, plan), lights + loaves)


class LitDays(unittest.TestCase):
    def test_rising_each_once(self):
        self.assertEqual(lit_days([]), [])
        self.assertEqual(lit_days(two_goods_plan()), [0, 1, 2, 3])
        plan = [(1, 0, 0, 2), (1, 0, 1, 4), (30, 0, 1, 1), (39, 0, 1, 1), (39, 1, 1, 1)]
        self.assertEqual(lit_days(plan), [1, 30, 39])

    def test_of_chance(self):
        chance = random.Random(7)
        for many in (1, 3, 8, 40) * 5:
            plan = random_plan(chance, random_bakery(chance, many, goods=2))
            lit = asked(self, lit_days, plan)
            self.assertIsInstance(lit, list)
            self.assertEqual(lit, [day for day in range(40) if day in [row[0] for row in plan]])

    def test_a_new_list_each_time(self):
        plan = two_goods_plan()
        first = lit_days(plan)
        second = lit_days(plan)
        first.append(9)
        self.assertEqual(second, [0, 1, 2, 3])
        plan.clear()
        self.assertEqual(second, [0, 1, 2, 3])


class NothingIsKept(unittest.TestCase):
    def test_no_bakery_ahead_of_all_else(self):
        for thing in ([], two_goods_plan(), None, "plan"):
            check_refuses_no_bakeries(self, fits, thing)
        for plan in ([], [(0, 0, 0, 1)]):
            check_refuses_no_bakeries(self, cost_of, plan)

    def test_changed_in_place_and_asked_again(self):
        bakery, plan = two_goods(), two_goods_plan()
        self.assertIs(fits(bakery, plan), True)
        plan[0] = (0, 0, 0, 1)
        self.assertIs(fits(bakery, plan), False)
        bakery[2][0][0][0] = (1, 5, 1, 3)
        self.assertIs(fits(bakery, plan), True)
        self.assertEqual(cost_of(bakery, plan), 249)
        bakery[0][3] = 0
        self.assertEqual(cost_of(bakery, plan), 209)
        plan.pop()
        self.assertIs(fits(bakery, plan), False)
        self.assertEqual(lit_days(plan), [0, 1, 2])

    def test_a_refused_thing_changes_no_later_answer(self):
        for thing in NO_WHOLE:
            self.assertIs(fits(two_goods(), thing), False)
            self.assertIs(fits(two_goods(), two_goods_plan()), True)

    def test_what_is_handed_in_stays_as_it_was(self):
        bakery, plan = two_goods(), two_goods_plan()
        before = copy.deepcopy((bakery, plan))
        fits(bakery, plan)
        fits(bakery, plan[::-1])
        cost_of(bakery, plan)
        lit_days(plan)
        self.assertEqual(repr((bakery, plan)), repr(before))

    def test_one_day_of_one_loaf(self):
        bakery = one_good([0], [(1, 0, 0, None)], life=0, bound=1)
        self.assertIs(fits(bakery, [(0, 0, 0, 1)]), True)
        self.assertEqual(cost_of(bakery, [(0, 0, 0, 1)]), 0)

    def test_all_are_written_in_plans(self):
        for name in ("fits", "cost_of", "lit_days"):
            self.assertEqual(getattr(plans, name).__module__, "bakeahead.plans")


if __name__ == "__main__":
    unittest.main()
