import random
import unittest

from bakeahead import ladders
from bakeahead.doughs import dough_cost, fits_doughs
from bakeahead.errors import NoDoughs, TooMany
from bakeahead.ladderlook import lets_ladder
from bakeahead.ladders import cheapest_doughs
from bakeahead.rows import least_row
from helpers import (
    TOP, asked, check_refuses_no_doughs, even_bakery, great_bakery, least_by_all_mixings, lists_within, one_good,
    random_bakery, random_doughs, random_steady, three_days,
)


def free_doughs(many):
    return [(0, 0, 0)] * many


class Cheapest(unittest.TestCase):
    def told(self, bakery, doughs, least=None):
        """A plan that fits, and a ladder that is let by, which come to the same: the least cost, where it is known."""
        with self.subTest(bakery=bakery, doughs=doughs):
            answer = asked(self, cheapest_doughs, bakery, doughs)
            self.assertEqual((type(answer), len(answer)), (tuple, 2))
            plan, ladder = answer
            self.assertIs(fits_doughs(bakery, doughs, plan), True)
            self.assertIs(lets_ladder(bakery, doughs, ladder), True)
            cost = dough_cost(bakery, doughs, plan)
            self.assertEqual(repr(ladder[0][-1]), repr(cost))
            if least is not None:
                self.assertEqual(cost, least)
            return plan


class ByHand(Cheapest):
    def test_one_day(self):
        plan = self.told(one_good([10], [(3, 5, 9, 9)]), [(7, 2, 9)], 7 + 10 + 3 * (2 + 5))
        self.assertEqual(plan, [(0, 0, 0, 3)])
        plan = self.told(even_bakery(1, (TOP, TOP, 0, 0), light=TOP), [(TOP, TOP, 0)], 2 * TOP + 2 * TOP * TOP)
        self.assertEqual(plan, [(0, 0, 0, TOP)])

    def test_nothing_wanted(self):
        for many in (1, 3, 12):
            self.assertEqual(self.told(even_bakery(many, (0, 5, 5, 5)), [(1, 2, 3)] * many, 0), [])
            self.assertEqual(self.told(even_bakery(many, (0, 5, 5, 5)), free_doughs(many), 0), [])

    def test_dough_is_held(self):
        # Loaves don't keep, dough does.
        bakery = even_bakery(3, (2, 5, 9, None), light=1, life=0)
        plan = self.told(bakery, [(50, 1, 1)] * 3, 50 + 3 + 6 * 5 + 6 * 1 + 2 * 1 + 2 * 2)
        self.assertEqual(plan, [(0, 0, 0, 2), (0, 1, 1, 2), (0, 2, 2, 2)])

    def test_loaves_are_kept(self):
        # Dough is dear to hold, lights are dear, loaves keep at little.
        bakery = even_bakery(3, (2, 5, 1, None), light=40)
        plan = self.told(bakery, [(1, 1, 9)] * 3, 1 + 40 + 6 * 6 + 2 * 1 + 2 * 2)
        self.assertEqual(plan, [(0, 0, 0, 2), (0, 0, 1, 2), (0, 0, 2, 2)])

    def test_wants_wait(self):
        bakery = one_good([99, 99, 5], [(2, 5, 1, 1), (2, 5, 1, 1), (2, 5, 1, 1)])
        plan = self.told(bakery, [(9, 1, 2), (9, 1, 2), (1, 1, 2)], 1 + 5 + 6 * 6 + 2 * 2 + 2 * 1)
        self.assertEqual(plan, [(2, 2, 0, 2), (2, 2, 1, 2), (2, 2, 2, 2)])

    def test_mixed_long_ahead_for_one_late_baking(self):
        bakery = one_good([99, 99, 5], [(2, 5, 1, 1), (2, 5, 1, 1), (2, 5, 1, 1)])
        plan = self.told(bakery, [(1, 1, 0), (50, 1, 0), (50, 1, 0)], 1 + 5 + 6 * 6 + 2 * 2 + 2 * 1)
        self.assertEqual(plan, [(0, 2, 0, 2), (0, 2, 1, 2), (0, 2, 2, 2)])

    def test_each_day_on_its_own(self):
        bakery = even_bakery(4, (3, 5, 9, 9), light=1)
        plan = self.told(bakery, [(1, 1, 9)] * 4, 4 * (1 + 1 + 3 * 6))
        self.assertEqual(plan, [(day, day, day, 3) for day in range(4)])


class AgainstAllMixings(Cheapest):
    def test_few_days(self):
        chance = random.Random(281)
        for at in range(160):
            bakery = random_bakery(chance, 4 if at % 8 == 0 else chance.randint(1, 3))
            doughs = random_doughs(chance, len(bakery[0]))
            self.told(bakery, doughs, least_by_all_mixings(bakery, doughs))

    def test_steady_ones(self):
        chance = random.Random(282)
        for _ in range(40):
            bakery = random_steady(chance, chance.randint(1, 3))
            doughs = random_doughs(chance, len(bakery[0]))
            self.told(bakery, doughs, least_by_all_mixings(bakery, doughs))

    def test_great_numbers(self):
        chance = random.Random(283)
        for _ in range(60):
            bakery = great_bakery(chance, chance.randint(1, 3))
            doughs = random_doughs(chance, len(bakery[0]), TOP)
            self.told(bakery, doughs, least_by_all_mixings(bakery, doughs))

    def test_five_days(self):
        chance = random.Random(284)
        for _ in range(4):
            bakery = random_bakery(chance, 5)
            doughs = random_doughs(chance, 5, 9)
            self.told(bakery, doughs, least_by_all_mixings(bakery, doughs))


class ToTwelveDays(Cheapest):
    def test_of_chance(self):
        chance = random.Random(285)
        for many in range(1, 13):
            for fines in (True, False):
                for _ in range(8):
                    bakery = random_bakery(chance, many, fines=fines)
                    self.told(bakery, random_doughs(chance, many))

    def test_great_numbers(self):
        chance = random.Random(286)
        for many in (5, 9, 12):
            for fines in (True, False):
                for top in (5, TOP):
                    self.told(great_bakery(chance, many, fines=fines), random_doughs(chance, many, top))

    def test_doughs_that_cost_nothing(self):
        chance = random.Random(287)
        for many in range(1, 13):
            for bakery in (random_bakery(chance, many), random_steady(chance, many), great_bakery(chance, many)):
                self.told(bakery, free_doughs(many), least_row(bakery)[-1])

    def test_lights_that_cost_nothing(self):
        chance = random.Random(288)
        for _ in range(30):
            lights, bound, goods = random_bakery(chance, chance.randint(1, 8))
            bakery = ([0] * len(lights), bound, goods)
            self.told(bakery, random_doughs(chance, len(lights)))
            self.told(bakery, free_doughs(len(lights)))

    def test_all_alike(self):
        for day in [(1, 0, 0, 0), (1, 0, 0, None), (TOP, 0, 0, 0), (0, 0, 0, 0)]:
            for dough in [(0, 0, 0), (1, 0, 0), (0, 1, 0), (0, 0, 1)]:
                for light in (0, 1):
                    self.told(even_bakery(12, day, light=light), [dough] * 12)

    def test_every_rung_is_the_least_cost_of_so_many_days(self):
        chance = random.Random(289)
        for _ in range(40):
            bakery = random_bakery(chance, chance.randint(1, 6), fines=False)
            doughs = random_doughs(chance, len(bakery[0]))
            free = cheapest_doughs(bakery, doughs)[1][0]
            for many in range(1, len(free)):
                first = (bakery[0][:many], None, [(bakery[2][0][0][:many], bakery[2][0][1])])
                self.assertEqual(dough_cost(first, doughs[:many], cheapest_doughs(first, doughs[:many])[0]), free[many])


class Refusals(Cheapest):
    def test_more_than_twelve_days(self):
        for many in (13, 14, 40):
            with self.assertRaises(TooMany):
                cheapest_doughs(even_bakery(many, (1, 1, 1, 1)), [(1, 1, 1)] * many)
            with self.assertRaises(TooMany):
                cheapest_doughs(even_bakery(many, (0, 1, 1, 1)), free_doughs(many))
        self.told(even_bakery(12, (1, 1, 1, 1)), [(1, 1, 1)] * 12)

    def test_no_doughs_ahead_of_too_many(self):
        for many in (13, 40):
            short = [(1, 1, 1)] * (many - 1)
            for doughs, day in [(short, None), (None, None), (short + [None], many - 1)]:
                with self.assertRaises(NoDoughs) as caught:
                    cheapest_doughs(even_bakery(many, (1, 1, 1, 1)), doughs)
                self.assertEqual(caught.exception.day, day)

    def test_no_bakery_then_not_plain_then_no_doughs(self):
        check_refuses_no_doughs(self, cheapest_doughs)

    def test_a_refusal_leaves_nothing_behind(self):
        doughs = [(7, 2, 1), (5, 3, 4), (6, 9, True)]
        with self.assertRaises(NoDoughs):
            cheapest_doughs(three_days(), doughs)
        doughs[2] = (6, 9, 1)
        self.told(three_days(), doughs, least_by_all_mixings(three_days(), doughs))

    def test_no_list_is_there_twice(self):
        chance = random.Random(290)
        for many in (1, 4, 12):
            for doughs in (free_doughs(many), random_doughs(chance, many)):
                places = [id(part) for part in lists_within(cheapest_doughs(random_bakery(chance, many), doughs))]
                self.assertEqual(len(places), len(set(places)))

    def test_it_is_written_in_ladders(self):
        self.assertEqual(ladders.cheapest_doughs.__module__, "bakeahead.ladders")


if __name__ == "__main__":
    unittest.main()
