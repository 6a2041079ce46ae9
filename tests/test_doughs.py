import itertools
import random
import unittest

from bakeahead import doughs as module
from bakeahead.doughs import dough_cost, fits_doughs, look_at_doughs
from bakeahead.loaves import price
from helpers import (
    NO_NUMBER, NO_WHOLE, SIXTY_FIGURES, TOP, Thing, all_prices, asked, check_refused_doughs, check_refuses_no_doughs,
    even_bakery, great_bakery, one_good, random_bakery, random_doughs, replaced, three_days, walked_dough, walked_price,
)


def some_doughs():
    """Doughs for three_days."""
    return [(7, 2, 1), (5, 3, 4), (6, 9, 8)]


def some_plan():
    """A plan with doughs that fits three_days: all ahead, on the day, and late."""
    return [(0, 0, 0, 1), (0, 0, 1, 2), (0, 1, 0, 1), (0, 1, 1, 1), (1, 1, 1, 1)]


def does_fit(bakery, plan):
    """Whether a list of well formed rows is a plan with doughs that fits, by wants and prices."""
    heads = [row[:3] for row in plan]
    if heads != sorted(heads) or len(set(heads)) < len(heads):
        return False
    if any(mixed > baked or many < 1 for mixed, baked, given, many in plan):
        return False
    if any(price(bakery, 0, baked, given) is None for mixed, baked, given, many in plan):
        return False
    wants = [day[0] for day in bakery[2][0][0]]
    return wants == [sum(row[3] for row in plan if row[2] == given) for given in range(len(wants))]


def random_dough_plan(chance, bakery):
    """A plan with doughs that fits: each wanted loaf is mixed and baked on some days."""
    many = {}
    for given, day in enumerate(bakery[2][0][0]):
        for loaf in range(day[0]):
            baked = chance.choice(list(all_prices(bakery, 0, given)))
            head = (chance.randint(0, baked), baked, given)
            many[head] = many.get(head, 0) + 1
    return sorted(head + (many[head],) for head in many)


def worked_cost(bakery, doughs, plan):
    """What a plan costs: days, then loaves, dough by dough and night by night."""
    mixes = sum(doughs[day][0] for day in {row[0] for row in plan})
    lights = sum(bakery[0][day] for day in {row[1] for row in plan})
    loaves = [many * (walked_dough(doughs, mixed, baked) + walked_price(bakery, 0, baked, given))
              for mixed, baked, given, many in plan]
    return mixes + lights + sum(loaves)


class Looking(unittest.TestCase):
    def test_doughs(self):
        for made in [some_doughs(), [(0, 0, 0)] * 3, [(TOP, TOP, TOP)] * 3]:
            self.assertIsNone(asked(self, look_at_doughs, three_days(), made))
        for many in (1, 12, 13, 40):
            self.assertIsNone(look_at_doughs(even_bakery(many, (1, 1, 1, 1)), [(1, 2, 3)] * many))

    def test_no_doughs(self):
        check_refuses_no_doughs(self, look_at_doughs)

    def test_each_part_of_each_day(self):
        for thing in NO_NUMBER:
            for day in range(3):
                for part in range(3):
                    wrong = replaced(some_doughs(), [day, part], thing)
                    check_refused_doughs(self, day, look_at_doughs, three_days(), wrong)

    def test_other_things_in_a_days_place(self):
        for thing in NO_WHOLE + [0, 1, [1, 2, 3], (1, 2), (1, 2, 3, 4), ((1, 2, 3),), Thing()]:
            for day in range(3):
                check_refused_doughs(self, day, look_at_doughs, three_days(), replaced(some_doughs(), [day], thing))

    def test_other_things_in_the_lists_place(self):
        for thing in NO_WHOLE + [0, 3, tuple(some_doughs()), dict(enumerate(some_doughs())), Thing()]:
            check_refused_doughs(self, None, look_at_doughs, three_days(), thing)

    def test_the_first_one_is_told(self):
        wrong = [(7, 2, True), (5, 3, 4), (6, 9)]
        check_refused_doughs(self, 0, look_at_doughs, three_days(), wrong)
        wrong[0] = (7, 2, 1)
        check_refused_doughs(self, 2, look_at_doughs, three_days(), wrong)
        wrong[2] = (6, 9, 8)
        self.assertIsNone(look_at_doughs(three_days(), wrong))


class Fits(unittest.TestCase):
    def fits(self, bakery, doughs, thing):
        with self.subTest(bakery=bakery, thing=thing):
            self.assertIs(asked(self, fits_doughs, bakery, doughs, thing), True)

    def misses(self, bakery, doughs, thing):
        with self.subTest(bakery=bakery, thing=thing):
            self.assertIs(asked(self, fits_doughs, bakery, doughs, thing), False)

    def test_plans_that_fit(self):
        self.fits(three_days(), some_doughs(), some_plan())
        self.fits(three_days(), some_doughs(), [(0, 0, 0, 2), (0, 0, 1, 4)])
        self.fits(three_days(), some_doughs(), [(0, 1, 0, 2), (0, 1, 1, 4)])
        self.fits(three_days(), some_doughs(), [(0, 0, 0, 2), (1, 1, 1, 4)])

    def test_nothing_wanted(self):
        self.fits(even_bakery(2, (0, 1, 1, 1)), [(1, 1, 1)] * 2, [])
        self.misses(even_bakery(2, (0, 1, 1, 1)), [(1, 1, 1)] * 2, [(0, 0, 0, 1)])
        self.misses(even_bakery(2, (0, 1, 1, 1)), [(1, 1, 1)] * 2, [(0, 0, 0, 0)])
        self.misses(even_bakery(2, (0, 1, 1, 1)), [(1, 1, 1)] * 2, ())
        self.misses(three_days(), some_doughs(), [])

    def test_mixed_behind_baked(self):
        self.misses(three_days(), some_doughs(), [(0, 0, 1, 4), (1, 0, 0, 2)])
        self.misses(three_days(), some_doughs(), [(0, 0, 0, 2), (2, 1, 1, 4)])

    def test_a_loaf_more_or_less(self):
        for at in range(5):
            row = some_plan()[at]
            self.misses(three_days(), some_doughs(), replaced(some_plan(), [at, 3], row[3] + 1))
            self.misses(three_days(), some_doughs(), replaced(some_plan(), [at, 3], row[3] - 1))
            self.misses(three_days(), some_doughs(), some_plan()[:at] + some_plan()[at + 1:])
        self.misses(three_days(), some_doughs(), some_plan() + [(2, 2, 2, 1)])
        self.misses(three_days(), some_doughs(), [(0, 0, 0, 3), (0, 0, 1, 3)])

    def test_out_of_order(self):
        for plan in itertools.permutations(some_plan()):
            if list(plan) != some_plan():
                self.misses(three_days(), some_doughs(), list(plan))

    def test_alike_in_the_first_three(self):
        self.misses(three_days(), some_doughs(), [(0, 0, 0, 1), (0, 0, 0, 1), (0, 0, 1, 4)])
        self.misses(three_days(), some_doughs(), [(0, 0, 0, 2), (0, 0, 1, 1), (0, 0, 1, 3)])

    def test_none_of_a_row(self):
        self.misses(three_days(), some_doughs(), some_plan() + [(1, 1, 2, 0)])
        self.misses(three_days(), some_doughs(), [(0, 0, 0, 2), (0, 0, 1, 5), (1, 1, 1, -1)])

    def test_without_a_price(self):
        # A loaf keeps one night; day 1 can't wait.
        bakery = replaced(three_days(), [2, 0, 0, 2, 0], 1)
        self.fits(bakery, some_doughs(), some_plan() + [(1, 1, 2, 1)])
        self.fits(bakery, some_doughs(), [(0, 0, 0, 2), (0, 0, 1, 4), (0, 2, 2, 1)])
        self.misses(bakery, some_doughs(), [(0, 0, 0, 2), (0, 0, 1, 4), (0, 0, 2, 1)])
        self.misses(bakery, some_doughs(), [(0, 0, 0, 2), (0, 2, 1, 4), (0, 2, 2, 1)])

    def test_a_dough_has_no_life(self):
        bakery = one_good([1] * 40, [(0, 1, 1, None)] * 39 + [(3, 1, 1, None)], life=0)
        self.fits(bakery, [(1, 1, 1)] * 40, [(0, 39, 39, 3)])
        self.misses(bakery, [(1, 1, 1)] * 40, [(0, 38, 39, 3)])

    def test_other_kinds(self):
        for thing in NO_WHOLE + [0, Thing(), "plan", tuple(some_plan()), [some_plan()], {0: some_plan()[0]}]:
            self.misses(three_days(), some_doughs(), thing)
            self.misses(three_days(), some_doughs(), some_plan() + [thing])
            self.misses(three_days(), some_doughs(), replaced(some_plan(), [2], thing))

    def test_other_things_in_a_row(self):
        for at in range(5):
            self.misses(three_days(), some_doughs(), replaced(some_plan(), [at], list(some_plan()[at])))
            self.misses(three_days(), some_doughs(), replaced(some_plan(), [at], some_plan()[at][:3]))
            self.misses(three_days(), some_doughs(), replaced(some_plan(), [at], some_plan()[at] + (1,)))
            for part in range(4):
                for thing in NO_WHOLE + [-1, 3, SIXTY_FIGURES]:
                    self.misses(three_days(), some_doughs(), replaced(some_plan(), [at, part], thing))

    def test_truths(self):
        self.misses(three_days(), some_doughs(), [(False, 0, 0, 2), (0, 0, 1, 4)])
        self.misses(three_days(), some_doughs(), [(0, 0, 0, 1), (0, 0, 1, 4), (0, 1, 0, True)])
        self.misses(three_days(), some_doughs(), [(0, 0, 0, 2), (0, 0, True, 4)])

    def test_against_wants_and_prices(self):
        chance = random.Random(261)
        told = {True: 0, False: 0}
        for _ in range(600):
            bakery = random_bakery(chance, chance.randint(1, 5))
            many = len(bakery[0])
            plan = random_dough_plan(chance, bakery)
            for _ in range(chance.choice([0, 0, 1, 1, 2])):
                if plan:
                    at, part = chance.randrange(len(plan)), chance.randrange(4)
                    new = chance.randrange(many) if part < 3 else plan[at][3] + chance.choice([-1, 1])
                    plan = replaced(plan, [at, part], new)
                if chance.random() < 0.3:
                    plan = sorted(plan)
            wanted = does_fit(bakery, plan)
            told[wanted] += 1
            with self.subTest(bakery=bakery, plan=plan):
                self.assertIs(fits_doughs(bakery, random_doughs(chance, many), plan), wanted)
        self.assertGreater(min(told.values()), 100)

    def test_no_doughs(self):
        for thing in (None, [], some_plan()):
            check_refuses_no_doughs(self, fits_doughs, thing)


class Costs(unittest.TestCase):
    def costs(self, bakery, doughs, plan, cost):
        with self.subTest(bakery=bakery, doughs=doughs, plan=plan):
            self.assertEqual(repr(asked(self, dough_cost, bakery, doughs, plan)), repr(cost))

    def test_by_hand(self):
        # Mixed and baked on day 0: the mix 7, the light 10; each loaf 2 for its dough, and 5 or, kept, 6.
        self.costs(three_days(), some_doughs(), [(0, 0, 0, 2), (0, 0, 1, 4)], 7 + 10 + 2 * (2 + 5) + 4 * (2 + 6))
        # Held over a night, then baked: 1 more for each; day 0 waits for 3.
        self.costs(three_days(), some_doughs(), [(0, 1, 0, 2), (0, 1, 1, 4)], 7 + 20 + 2 * (3 + 9) + 4 * (3 + 6))
        cost = 7 + 5 + 10 + 20 + 2 * (2 + 5) + 4 * (3 + 6)
        self.costs(three_days(), some_doughs(), [(0, 0, 0, 2), (1, 1, 1, 4)], cost)

    def test_each_day_once(self):
        plan = some_plan()
        loaves = (2 + 5) + 2 * (2 + 6) + (3 + 9) + (3 + 6) + (3 + 6)
        self.costs(three_days(), some_doughs(), plan, 7 + 5 + 10 + 20 + loaves)

    def test_no_loaves(self):
        self.costs(even_bakery(2, (0, 9, 9, 9), light=9), [(9, 9, 9)] * 2, [], 0)

    def test_doughs_that_cost_nothing(self):
        self.costs(three_days(), [(0, 0, 0)] * 3, [(0, 0, 0, 2), (0, 0, 1, 4)], 10 + 2 * 5 + 4 * 6)

    def test_of_chance(self):
        chance = random.Random(262)
        for _ in range(200):
            bakery = random_bakery(chance, chance.randint(1, 7))
            doughs = random_doughs(chance, len(bakery[0]))
            plan = random_dough_plan(chance, bakery)
            self.costs(bakery, doughs, plan, worked_cost(bakery, doughs, plan))

    def test_great_numbers(self):
        chance = random.Random(263)
        for many in (1, 5, 40):
            bakery = great_bakery(chance, many)
            doughs = random_doughs(chance, many, TOP)
            wants = [(given, day[0]) for given, day in enumerate(bakery[2][0][0]) if day[0]]
            plan = sorted((chance.randint(0, given), given, given, want) for given, want in wants)
            self.costs(bakery, doughs, plan, worked_cost(bakery, doughs, plan))

    def test_no_doughs(self):
        check_refuses_no_doughs(self, dough_cost, some_plan())

    def test_all_are_written_in_doughs(self):
        for name in ("look_at_doughs", "fits_doughs", "dough_cost"):
            self.assertEqual(getattr(module, name).__module__, "bakeahead.doughs")


if __name__ == "__main__":
    unittest.main()
