import random
import unittest

from bakeahead import steady
from bakeahead.errors import NoBakery, NotPlain, NotSteady
from bakeahead.rows import least_row
from bakeahead.steady import is_steady, last_lits
from helpers import (
    NO_BAKERIES, TOP, asked, check_refuses_no_bakeries, check_refuses_not_plain, check_refuses_not_steady,
    cost_with_lit, even_bakery, first_days, great_bakery, made_steady, one_good, random_bakery, random_steady,
    replaced, sets_of_days, three_days, two_goods, walked_price,
)


def can_bake_on_last(bakery, lit):
    """Whether, at no greater cost, something can be baked on the last one of these lit days."""
    for given, day in enumerate(bakery[2][0][0]):
        prices = [walked_price(bakery, 0, baked, given) for baked in lit]
        least = min([each for each in prices if each is not None], default=None)
        if day[0] > 0 and prices[-1] is not None and prices[-1] == least:
            return True
    return False


def last_lit_by_all_sets(bakery):
    """The greatest last lit day of a cheapest plan of few days, by going through all sets of lit days."""
    costs = [(cost_with_lit(bakery, lit), lit) for lit in sets_of_days(len(bakery[0]))]
    costs = [(cost, lit) for cost, lit in costs if cost is not None]
    least = min(cost for cost, lit in costs)
    cheap = [lit for cost, lit in costs if cost == least and lit]
    return max([lit[-1] for lit in cheap if can_bake_on_last(bakery, lit)], default=None)


def last_lits_by_all_sets(bakery):
    return [None] + [last_lit_by_all_sets(first_days(bakery, many)) for many in range(1, len(bakery[0]) + 1)]


class IsSteady(unittest.TestCase):
    def steady(self, bakery):
        with self.subTest(bakery=bakery):
            self.assertIs(asked(self, is_steady, bakery), True)

    def unsteady(self, bakery):
        with self.subTest(bakery=bakery):
            self.assertIs(asked(self, is_steady, bakery), False)

    def test_alike_days(self):
        for many in (1, 2, 3, 40):
            for life in (None, 0, 1, 40):
                self.steady(even_bakery(many, (1, 2, 0, None), life=life))
                self.steady(even_bakery(many, (0, 0, 0, None), life=life))
                self.steady(even_bakery(many, (TOP, TOP, TOP, None), light=TOP, life=life))

    def test_two_goods(self):
        self.unsteady(even_bakery(3, (1, 2, 3, None), goods=2))
        self.unsteady(two_goods())

    def test_a_bound(self):
        for bound in (1, 5, TOP):
            self.unsteady(even_bakery(3, (1, 2, 3, None), bound=bound))
            self.unsteady(even_bakery(3, (1, 2, 3, None), bound=bound, goods=2))

    def test_a_fine_on_any_day(self):
        for many in (1, 2, 5):
            for at in range(many):
                for fine in (0, 1, TOP):
                    self.unsteady(replaced(even_bakery(many, (1, 2, 3, None)), [2, 0, 0, at, 3], fine))

    def test_a_loaf_price_at_most_that_of_one_kept(self):
        for at in (1, 2, 3):
            bakery = even_bakery(4, (1, 2, 3, None))
            self.steady(replaced(bakery, [2, 0, 0, at, 1], 5))
            self.unsteady(replaced(bakery, [2, 0, 0, at, 1], 6))
            self.steady(replaced(bakery, [2, 0, 0, at, 1], 0))

    def test_a_loaf_price_much_less_makes_the_next_one_too_dear(self):
        bakery = even_bakery(3, (1, 5, 3, None))
        self.steady(replaced(bakery, [2, 0, 0, 1, 1], 2))
        self.unsteady(replaced(bakery, [2, 0, 0, 1, 1], 1))

    def test_the_first_loaf_price_is_free(self):
        self.steady(one_good([1], [(1, TOP, 0, None)]))
        self.steady(one_good([1, 1], [(1, TOP, 0, None), (1, 0, 0, None)]))
        self.unsteady(one_good([1, 1], [(1, 0, 0, None), (1, TOP, 0, None)]))

    def test_the_last_keep_and_the_wants_and_lights_are_free(self):
        self.steady(one_good([TOP, 0], [(0, 3, 1, None), (TOP, 4, 0, None)]))
        self.steady(one_good([0, TOP], [(TOP, 3, 1, None), (0, 4, TOP, None)]))
        self.unsteady(one_good([0, TOP], [(0, 3, 1, None), (0, 5, TOP, None)]))

    def test_the_keep_is_that_of_the_day_before(self):
        self.steady(one_good([1, 1, 1], [(1, 1, 4, None), (1, 5, 0, None), (1, 5, 0, None)]))
        self.unsteady(one_good([1, 1, 1], [(1, 1, 3, None), (1, 5, 9, None), (1, 5, 9, None)]))

    def test_the_life_is_free(self):
        for life in (None, 0, 1, 40):
            self.steady(one_good([1, 1], [(1, 1, 4, None), (1, 5, 0, None)], life=life))
            self.unsteady(one_good([1, 1], [(1, 1, 4, None), (1, 6, 0, None)], life=life))

    def test_of_chance(self):
        chance = random.Random(51)
        told = {True: 0, False: 0}
        for _ in range(400):
            bakery = random_bakery(chance, chance.randint(1, 4), fines=chance.random() < 0.2)
            days = bakery[2][0][0]
            kept = all(days[at][1] <= days[at - 1][1] + days[at - 1][2] for at in range(1, len(days)))
            steady_one = kept and all(day[3] is None for day in days)
            told[steady_one] += 1
            self.assertIs(is_steady(bakery), steady_one)
            self.assertIs(is_steady(made_steady(bakery)), True)
        self.assertGreater(min(told.values()), 50)

    def test_no_bakery_alone_is_refused(self):
        check_refuses_no_bakeries(self, is_steady)
        self.assertIs(is_steady(three_days()), False)


class ByHand(unittest.TestCase):
    def told(self, bakery, lits):
        self.assertEqual(repr(asked(self, last_lits, bakery)), repr(lits))

    def test_each_day_for_itself(self):
        self.told(even_bakery(3, (1, 1, 5, None), light=2), [None, 0, 1, 2])

    def test_all_on_the_first_day(self):
        self.told(even_bakery(3, (1, 1, 0, None), light=2), [None, 0, 0, 0])

    def test_equal_costs_the_greatest_day(self):
        self.told(even_bakery(2, (1, 1, 2, None), light=2), [None, 0, 1])
        # Three days cost 5, whether day 0, 1 or 2 is the last lit one.
        self.told(even_bakery(4, (1, 0, 1, None), light=2), [None, 0, 0, 2, 2])

    def test_nothing_wanted_on_the_first_days(self):
        days = [(0, 1, 9, None), (0, 1, 9, None), (2, 1, 9, None), (0, 1, 9, None)]
        self.told(one_good([5] * 4, days), [None, None, None, 2, 2])
        self.told(even_bakery(3, (0, 1, 1, None)), [None] * 4)

    def test_a_dear_oven_on_the_wanted_day(self):
        days = [(0, 1, 0, None), (0, 1, 0, None), (2, 1, 0, None)]
        self.told(one_good([5, 4, 6], days), [None, None, None, 1])
        self.told(one_good([4, 5, 6], days), [None, None, None, 0])
        self.told(one_good([4, 4, 6], days), [None, None, None, 1])
        self.told(one_good([4, 4, 4], days), [None, None, None, 2])
        self.told(one_good([4, 5, 6], days, life=1), [None, None, None, 1])
        self.told(one_good([4, 5, 6], days, life=0), [None, None, None, 2])

    def test_lights_of_nought(self):
        self.told(even_bakery(4, (1, 1, 0, None), light=0), [None, 0, 1, 2, 3])

    def test_lights_of_nought_and_wants_of_nought_behind(self):
        # Day 2 and 3 could be lit for nothing, but nothing would be baked on them.
        days = [(1, 1, 0, None), (1, 1, 0, None), (0, 1, 0, None), (0, 1, 0, None)]
        self.told(one_good([0] * 4, days), [None, 0, 1, 1, 1])

    def test_lives(self):
        for life, lits in [(0, [None, 0, 1, 2, 3]), (1, [None, 0, 0, 2, 2]), (2, [None, 0, 0, 0, 3])]:
            self.told(even_bakery(4, (1, 2, 0, None), light=5, life=life), lits)

    def test_one_day(self):
        self.told(one_good([TOP], [(TOP, TOP, TOP, None)], life=0), [None, 0])
        self.told(one_good([0], [(1, 0, 0, None)]), [None, 0])
        self.told(one_good([0], [(0, 0, 0, None)]), [None, None])


class AgainstAllSets(unittest.TestCase):
    def test_few_days_of_chance(self):
        chance = random.Random(52)
        for _ in range(500):
            bakery = random_steady(chance, chance.randint(1, 6))
            self.assertEqual(asked(self, last_lits, bakery), last_lits_by_all_sets(bakery))

    def test_few_days_of_great_numbers(self):
        chance = random.Random(53)
        for _ in range(150):
            bakery = made_steady(great_bakery(chance, chance.randint(1, 6), fines=False))
            self.assertEqual(asked(self, last_lits, bakery), last_lits_by_all_sets(bakery))

    def test_many_equal_costs(self):
        chance = random.Random(54)
        for _ in range(300):
            many = chance.randint(1, 6)
            days = [(chance.randint(0, 1), 0, chance.randint(0, 1), None) for _ in range(many)]
            bakery = made_steady(one_good([chance.randint(0, 2) for _ in range(many)], days))
            self.assertEqual(asked(self, last_lits, bakery), last_lits_by_all_sets(bakery))


class ManyDays(unittest.TestCase):
    def check(self, bakery):
        lits = asked(self, last_lits, bakery)
        many = len(bakery[0])
        self.assertEqual(len(lits), many + 1)
        self.assertIsNone(lits[0])
        wanted = [any(day[0] for day in bakery[2][0][0][:first]) for first in range(many + 1)]
        self.assertEqual([last is not None for last in lits], wanted)
        lasts = [last for last in lits if last is not None]
        self.assertEqual(lasts, sorted(lasts))
        self.assertTrue(all(type(last) is int for last in lasts))
        for first in (1, many // 2, many - 1):
            if first > 0:
                self.assertEqual(last_lits(first_days(bakery, first)), lits[:first + 1])
        return lits

    def test_it_never_goes_back(self):
        chance = random.Random(55)
        for many in range(1, 41):
            self.check(random_steady(chance, many))
            self.check(made_steady(great_bakery(chance, many, fines=False)))

    def test_a_plan_with_that_last_day_costs_the_least(self):
        chance = random.Random(56)
        for _ in range(20):
            bakery = random_steady(chance, 40)
            row = least_row(bakery)
            for many, last in enumerate(last_lits(bakery)):
                if last is not None:
                    rest = first_days(bakery, many)
                    alone = (rest[0][last:], None, [(rest[2][0][0][last:], rest[2][0][1])])
                    self.assertEqual(row[many], row[last] + cost_with_lit(alone, [0]))

    def test_forty_alike_days(self):
        bakery = even_bakery(40, (TOP, TOP, TOP, None), light=TOP)
        self.assertEqual(self.check(bakery), [None] + list(range(40)))
        bakery = even_bakery(40, (TOP, TOP, 0, None), light=TOP)
        self.assertEqual(self.check(bakery), [None] + [0] * 40)
        bakery = even_bakery(40, (TOP, TOP, 0, None), light=TOP, life=4)
        self.assertEqual(self.check(bakery)[40], 35)


class Refusals(unittest.TestCase):
    def test_no_bakery_ahead_of_all_else(self):
        check_refuses_no_bakeries(self, last_lits)

    def test_not_plain_ahead_of_not_steady(self):
        check_refuses_not_plain(self, last_lits)

    def test_not_steady(self):
        check_refuses_not_steady(self, last_lits)

    def test_in_this_order(self):
        # Each is worse than the next one, and has all its faults.
        fined = one_good([1, 2], [(1, 2, 3, 4), (1, 9, 3, None)])
        bound = replaced(fined, [1], 5)
        no_bakery = replaced(bound, [2, 0, 0, 1, 0], True)
        for bakery, error in [(fined, NotSteady), (bound, NotPlain), (no_bakery, NoBakery)]:
            with self.assertRaises(error):
                last_lits(bakery)

    def test_a_refusal_leaves_nothing_behind(self):
        bakery = even_bakery(2, (1, 1, 5, None), light=2)
        for thing, good, day in NO_BAKERIES:
            with self.assertRaises(NoBakery):
                last_lits(thing)
        self.assertEqual(last_lits(bakery), [None, 0, 1])

    def test_changed_in_place_and_asked_again(self):
        bakery = even_bakery(2, (1, 1, 5, None), light=2)
        told = last_lits(bakery)
        bakery[0][1] = 9
        self.assertEqual(last_lits(bakery), [None, 0, 0])
        self.assertEqual(told, [None, 0, 1])
        bakery[2][0][0][1] = (1, 1, 5, 0)
        self.assertIs(is_steady(bakery), False)

    def test_both_are_written_in_steady(self):
        for name in ("is_steady", "last_lits"):
            self.assertEqual(getattr(steady, name).__module__, "bakeahead.steady")


if __name__ == "__main__":
    unittest.main()
