import random
import time
import unittest

from bakeahead import ladderlook
from bakeahead.ladderlook import lets_ladder
from bakeahead.ladders import cheapest_doughs
from bakeahead.loaves import stretch_price
from helpers import (
    NO_WHOLE, SIXTY_FIGURES, TOP, Thing, asked, check_refuses_no_doughs, even_bakery, great_bakery,
    least_by_all_mixings, one_good, random_bakery, random_doughs, replaced, three_days, walked_dough,
)


def noughts(many):
    return ([0] * (many + 1), [[0] * (many + 1) for _ in range(many)])


def is_let_by(bakery, doughs, ladder):
    """Whether a well formed ladder is let by, each condition gone through as the document tells it."""
    free, mixed = ladder
    days = range(len(bakery[0]))
    wants = [day[0] for day in bakery[2][0][0]]
    if free[0] != 0:
        return False
    for row in [free] + mixed:
        if any(wants[day] == 0 and row[day + 1] > row[day] for day in days):
            return False
    for mixing in days:
        row = mixed[mixing]
        for low, each in zip(free, row):
            if low > each or each > low + doughs[mixing][0]:
                return False
        for baked in days[mixing:]:
            each = walked_dough(doughs, mixing, baked)
            for first in days:
                for last in days[first:]:
                    price = stretch_price(bakery, 0, baked, first, last)
                    if price is not None:
                        cost = bakery[0][baked] + price + each * sum(wants[first:last + 1])
                        if row[last + 1] > row[first] + cost:
                            return False
    return True


def random_ladder(chance, many, top):
    """A ladder of chance, that nearly holds the first two conditions."""
    free = [0]
    for _ in range(many):
        free.append(free[-1] + chance.randint(-2, top))
    return (free, [[low + chance.choice([0, 0, chance.randint(-1, top)]) for low in free] for _ in range(many)])


def all_places(ladder):
    """The paths to all numbers of a ladder."""
    free, mixed = ladder
    places = [[0, at] for at in range(len(free))]
    return places + [[1, day, at] for day in range(len(mixed)) for at in range(len(free))]


def number_at(ladder, path):
    for step in path:
        ladder = ladder[step]
    return ladder


class Ladders(unittest.TestCase):
    def lets(self, bakery, doughs, thing):
        with self.subTest(bakery=bakery, doughs=doughs, thing=thing):
            self.assertIs(asked(self, lets_ladder, bakery, doughs, thing), True)

    def refuses(self, bakery, doughs, thing):
        with self.subTest(bakery=bakery, doughs=doughs, thing=thing):
            self.assertIs(asked(self, lets_ladder, bakery, doughs, thing), False)

    def check(self, bakery, doughs, ladder):
        wanted = is_let_by(bakery, doughs, ladder)
        with self.subTest(bakery=bakery, doughs=doughs, ladder=ladder):
            self.assertIs(lets_ladder(bakery, doughs, ladder), wanted)
        return wanted


def two_days():
    """Two days that can't be baked for on one another, the second without a want."""
    return one_good([10, 20], [(3, 5, 1, None), (0, 6, 1, None)], life=0)


class ByHand(Ladders):
    def test_noughts(self):
        for many in (1, 2, 13, 40):
            bakery = even_bakery(many, (1, 2, 3, 4))
            self.lets(bakery, [(0, 0, 0)] * many, noughts(many))
            self.lets(bakery, [(5, 6, 7)] * many, noughts(many))
        self.lets(two_days(), [(7, 2, 1)] * 2, noughts(2))

    def test_free_is_no_more_than_mixed(self):
        doughs = [(7, 2, 1), (4, 2, 1)]
        self.lets(two_days(), doughs, ([0, 5, 3], [[2, 5, 3], [0, 5, 3]]))
        self.refuses(two_days(), doughs, ([0, 5, 3], [[2, 4, 3], [0, 5, 3]]))
        self.refuses(two_days(), doughs, ([0, 5, 3], [[2, 5, 3], [0, 5, 2]]))
        self.refuses(two_days(), doughs, ([0, 5, 3], [[-1, 5, 3], [0, 5, 3]]))
        self.refuses(two_days(), doughs, ([0, 5, 3], [[0, 5, 3], [-1, 5, 3]]))

    def test_mixed_is_no_more_than_free_and_the_mix(self):
        doughs = [(7, 2, 1), (4, 2, 1)]
        self.lets(two_days(), doughs, ([0, 5, 3], [[7, 12, 10], [4, 9, 7]]))
        for day, row in enumerate([[8, 13, 11], [5, 10, 8]]):
            for at, one_more in enumerate(row):
                ladder = replaced(([0, 5, 3], [[7, 12, 10], [4, 9, 7]]), [1, day, at], one_more)
                self.refuses(two_days(), doughs, ladder)

    def test_a_day_without_a_want(self):
        doughs = [(7, 2, 1), (4, 2, 1)]
        self.lets(two_days(), doughs, ([0, 5, 5], [[7, 5, 5], [4, 5, 5]]))
        self.refuses(two_days(), doughs, ([0, 5, 6], [[7, 6, 6], [4, 6, 6]]))
        self.refuses(two_days(), doughs, ([0, 5, 5], [[7, 5, 6], [4, 5, 5]]))
        self.refuses(two_days(), doughs, ([0, 5, 5], [[7, 5, 5], [4, 5, 6]]))

    def test_a_stretch(self):
        # From day 0 on: the light 10, three loaves at 5, their doughs at 2: 31 above the first number.
        doughs = [(7, 2, 1), (99, 2, 1)]
        self.lets(two_days(), doughs, ([0, 38, 38], [[7, 38, 38], [0, 38, 38]]))
        self.refuses(two_days(), doughs, ([0, 38, 38], [[6, 38, 38], [0, 38, 38]]))
        self.refuses(two_days(), doughs, ([0, 39, 39], [[7, 39, 39], [0, 39, 39]]))
        # With a fine day 0 may wait for day 1: the light 20, and three loaves at 6 and the fine 2.
        bakery = one_good([10, 20], [(3, 5, 1, 2), (0, 6, 1, None)], life=0)
        self.lets(bakery, doughs, ([0, 38, 38], [[7, 38, 38], [0, 38, 38]]))
        self.refuses(bakery, doughs, ([0, 51, 51], [[7, 38, 38], [1, 51, 51]]))
        doughs = [(100, 2, 1), (99, 2, 1)]
        self.lets(bakery, doughs, ([0, 50, 50], [[19, 50, 50], [0, 50, 50]]))
        self.refuses(bakery, doughs, ([0, 51, 51], [[20, 51, 51], [0, 51, 51]]))
        self.lets(bakery, doughs, ([0, 51, 51], [[20, 51, 51], [1, 51, 51]]))

    def test_holds_count(self):
        # Mixed on day 0, held over the night, baked on day 1: only so, as the light of day 0 is far too dear.
        bakery = one_good([TOP, 10], [(0, 5, 1, None), (3, 6, 1, None)], life=0)
        doughs = [(7, 2, 4), (TOP, 2, 9)]
        least = 7 + 10 + 3 * (2 + 4 + 6)
        self.lets(bakery, doughs, ([0, 0, least], [[7, 7, least], [TOP, TOP, TOP]]))
        self.refuses(bakery, doughs, ([0, 0, least + 1], [[7, 7, least + 1], [TOP, TOP, TOP]]))
        self.assertEqual(cheapest_doughs(bakery, doughs)[1][0], [0, 0, least])

    def test_below_nought(self):
        doughs = [(7, 2, 1), (4, 2, 1)]
        self.lets(two_days(), doughs, ([0, -5, -9], [[0, -5, -9], [4, -1, -9]]))
        self.lets(two_days(), doughs, ([0, -SIXTY_FIGURES, -SIXTY_FIGURES], [[0, -SIXTY_FIGURES, -SIXTY_FIGURES]] * 2))
        self.refuses(two_days(), doughs, ([0, SIXTY_FIGURES, 0], [[0, SIXTY_FIGURES, 0]] * 2))


class Forms(Ladders):
    def doughs(self):
        return [(7, 2, 1)] * 3

    def test_other_kinds(self):
        free, mixed = noughts(3)
        for thing in NO_WHOLE + [0, Thing(), "ladder", free, mixed, (free, mixed, 0), (free,), (mixed, free)]:
            self.refuses(three_days(), self.doughs(), thing)

    def test_a_list_in_the_tuples_place(self):
        self.refuses(three_days(), self.doughs(), list(noughts(3)))

    def test_tuples_in_the_lists_places(self):
        free, mixed = noughts(3)
        self.refuses(three_days(), self.doughs(), (tuple(free), mixed))
        self.refuses(three_days(), self.doughs(), (free, tuple(mixed)))
        for day in range(3):
            self.refuses(three_days(), self.doughs(), replaced((free, mixed), [1, day], (0, 0, 0, 0)))

    def test_too_short_and_too_long(self):
        free, mixed = noughts(3)
        for wrong in [[], [0], [0] * 3, [0] * 5, [0] * 1000]:
            self.refuses(three_days(), self.doughs(), (wrong, mixed))
            for day in range(3):
                self.refuses(three_days(), self.doughs(), replaced((free, mixed), [1, day], wrong))
        for wrong in [[], mixed[:1], mixed[:2], mixed + [[0] * 4]]:
            self.refuses(three_days(), self.doughs(), (free, wrong))

    def test_of_as_many_days_more_or_less(self):
        for many in (1, 2, 4, 40):
            self.refuses(three_days(), self.doughs(), noughts(many))
        self.lets(three_days(), self.doughs(), noughts(3))

    def test_other_things_in_a_numbers_place(self):
        for thing in NO_WHOLE:
            for path in all_places(noughts(3)):
                self.refuses(three_days(), self.doughs(), replaced(noughts(3), path, thing))

    def test_other_things_in_a_lists_place(self):
        for thing in NO_WHOLE + [0]:
            for path in [[0], [1], [1, 0], [1, 2]]:
                self.refuses(three_days(), self.doughs(), replaced(noughts(3), path, thing))

    def test_the_first_number_of_free(self):
        bakery = even_bakery(1, (1, 5, 5, 5))
        self.lets(bakery, [(3, 3, 3)], ([0, 0], [[0, 0]]))
        for first in (-1, 1, 2):
            self.refuses(bakery, [(3, 3, 3)], ([first, first], [[first, first]]))
            self.refuses(bakery, [(3, 3, 3)], ([first, 0], [[max(0, first), 0]]))

    def test_no_doughs(self):
        for thing in (None, noughts(3), noughts(2)):
            check_refuses_no_doughs(self, lets_ladder, thing)

    def test_it_is_written_in_ladderlook(self):
        self.assertEqual(ladderlook.lets_ladder.__module__, "bakeahead.ladderlook")


class AgainstEachCondition(Ladders):
    def test_told_ladders_a_step_aside(self):
        chance = random.Random(271)
        told = {True: 0, False: 0}
        for _ in range(60):
            bakery = random_bakery(chance, chance.randint(1, 4))
            doughs = random_doughs(chance, len(bakery[0]))
            plan, ladder = cheapest_doughs(bakery, doughs)
            self.assertTrue(self.check(bakery, doughs, ladder))
            for path in all_places(ladder):
                for step in (-1, 1):
                    told[self.check(bakery, doughs, replaced(ladder, path, number_at(ladder, path) + step))] += 1
        self.assertGreater(min(told.values()), 50)

    def test_ladders_of_chance(self):
        chance = random.Random(272)
        told = {True: 0, False: 0}
        for _ in range(2500):
            bakery = random_bakery(chance, chance.randint(1, 3))
            doughs = random_doughs(chance, len(bakery[0]), chance.choice([2, 9]))
            told[self.check(bakery, doughs, random_ladder(chance, len(bakery[0]), chance.choice([1, 3])))] += 1
        self.assertGreater(min(told.values()), 100)

    def test_more_days(self):
        chance = random.Random(273)
        told = {True: 0, False: 0}
        for many in (6, 9, 12):
            for _ in range(4):
                bakery = random_bakery(chance, many)
                doughs = random_doughs(chance, many)
                plan, ladder = cheapest_doughs(bakery, doughs)
                self.assertTrue(self.check(bakery, doughs, ladder))
                for _ in range(10):
                    path = chance.choice(all_places(ladder))
                    step = chance.choice([-1, 1])
                    told[self.check(bakery, doughs, replaced(ladder, path, number_at(ladder, path) + step))] += 1
        self.assertGreater(min(told.values()), 10)

    def test_forty_days(self):
        chance = random.Random(274)
        bakery = great_bakery(chance, 40)
        doughs = random_doughs(chance, 40, TOP)
        start = time.process_time()
        self.lets(bakery, doughs, noughts(40))
        self.assertLess(time.process_time() - start, 20)
        # On the last day the last rung is TOP above the others; just so much costs its dough, where a loaf is wanted.
        bakery = one_good([0] * 40, [(0, 0, 0, None)] * 39 + [(1, 0, 0, None)], life=0)
        doughs = [(0, TOP, 0)] * 40
        rung = [0] * 40 + [TOP]
        self.lets(bakery, doughs, (rung, [list(rung) for _ in range(40)]))
        over = [0] * 40 + [TOP + 1]
        self.refuses(bakery, doughs, (over, [list(over) for _ in range(40)]))


class AgainstAllMixings(Ladders):
    def test_no_plan_costs_less(self):
        chance = random.Random(275)
        told = {"met": 0, "less": 0}
        for _ in range(150):
            bakery = random_bakery(chance, chance.randint(1, 3))
            doughs = random_doughs(chance, len(bakery[0]), chance.choice([2, 9]))
            least = least_by_all_mixings(bakery, doughs)
            ladder = cheapest_doughs(bakery, doughs)[1]
            ladders = [random_ladder(chance, len(bakery[0]), chance.choice([1, 4, 12])) for _ in range(20)]
            ladders += [replaced(ladder, path, number_at(ladder, path) + step)
                        for path in all_places(ladder) for step in (-2, -1, 1, 2)]
            for each in ladders:
                if lets_ladder(bakery, doughs, each):
                    with self.subTest(bakery=bakery, doughs=doughs, ladder=each):
                        self.assertLessEqual(each[0][-1], least)
                    told["met" if each[0][-1] == least else "less"] += 1
        self.assertGreater(min(told.values()), 200)

    def test_changed_in_place_and_asked_again(self):
        doughs, ladder = [(7, 2, 1), (4, 2, 1)], ([0, 5, 5], [[7, 5, 5], [4, 5, 5]])
        self.lets(two_days(), doughs, ladder)
        ladder[1][0][2] = 6
        self.refuses(two_days(), doughs, ladder)
        ladder[1][0][2] = 5
        self.lets(two_days(), doughs, ladder)
        doughs[0] = (6, 2, 1)
        self.refuses(two_days(), doughs, ladder)


if __name__ == "__main__":
    unittest.main()
