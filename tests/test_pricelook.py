import random
import unittest

from bakeahead import pricelook
from bakeahead.loaves import stretch_price
from bakeahead.plans import cost_of
from bakeahead.pricelook import lets_prices
from bakeahead.prices import prices_of
from helpers import (
    NO_WHOLE, SIXTY_FIGURES, TOP, asked, check_refuses_no_bakeries, check_refuses_not_plain, even_bakery, great_bakery,
    least_by_all_sets, one_good, random_bakery, random_plan, replaced, three_days,
)


def lets_by_each_stretch(bakery, prices):
    """Whether prices are let by, of each day of baking and each stretch, one by one."""
    days = range(len(bakery[0]))
    for baked in days:
        for first in days:
            for last in days[first:]:
                cost = stretch_price(bakery, 0, baked, first, last)
                if cost is not None and sum(prices[first:last + 1]) > bakery[0][baked] + cost:
                    return False
    return True


def wants_of(bakery):
    return [day[0] for day in bakery[2][0][0]]


def bent_prices(chance, bakery, step):
    """The told prices, some of them changed on days with a want."""
    prices = prices_of(bakery)
    for at, want in enumerate(wants_of(bakery)):
        if want > 0 and chance.random() < 0.4:
            prices[at] += chance.choice([-2, -1, 1, 2]) * chance.randint(0, step)
    return prices


class Looks(unittest.TestCase):
    def by(self, bakery, thing):
        with self.subTest(bakery=bakery, thing=thing):
            self.assertIs(asked(self, lets_prices, bakery, thing), True)

    def not_by(self, bakery, thing):
        with self.subTest(bakery=bakery, thing=thing):
            self.assertIs(asked(self, lets_prices, bakery, thing), False)


class LetBy(Looks):
    def test_three_days(self):
        # All on day 0: 10 + 2 * 5 + 4 * 6, so 44; the first day alone at most 20, the second at most 34.
        self.by(three_days(), [20, 24, 0])
        self.by(three_days(), [10, 34, 0])
        self.not_by(three_days(), [21, 23, 0])
        self.not_by(three_days(), [9, 35, 0])
        self.not_by(three_days(), [20, 25, 0])
        self.not_by(three_days(), [21, 24, 0])

    def test_nought_on_every_day(self):
        chance = random.Random(31)
        for many in (1, 2, 7, 40):
            self.by(random_bakery(chance, many), [0] * many)
            self.by(great_bakery(chance, many), [0] * many)
            self.by(even_bakery(many, (0, 0, 0, 0), light=0), [0] * many)

    def test_below_nought(self):
        self.by(three_days(), [-1, -1, 0])
        self.by(three_days(), [-5, 34, 0])
        self.not_by(three_days(), [-5, 35, 0])
        self.by(three_days(), [20, -SIXTY_FIGURES, 0])
        self.not_by(three_days(), [21, -SIXTY_FIGURES, 0])

    def test_below_nought_is_no_help_to_a_stretch_without_it(self):
        bakery = even_bakery(3, (1, 1, 0, 0), light=5)
        self.by(bakery, [6, -9, 6])
        self.not_by(bakery, [7, -9, 6])
        self.not_by(bakery, [6, -9, 7])
        self.by(bakery, [4, -1, 5])
        self.by(bakery, [6, -4, 6])
        self.not_by(bakery, [6, -3, 6])

    def test_the_told_ones(self):
        chance = random.Random(32)
        for many in (1, 2, 5, 12, 40) * 3:
            for make in (random_bakery, great_bakery):
                for fines in (True, False):
                    bakery = make(chance, many, fines=fines)
                    self.by(bakery, prices_of(bakery))

    def test_one_more_than_the_told_ones(self):
        # Together they would come to more than the cheapest plan costs, so they can't be let by.
        chance = random.Random(33)
        for many in (1, 2, 5, 12, 40) * 3:
            for make in (random_bakery, great_bakery):
                bakery = make(chance, many)
                for at, want in enumerate(wants_of(bakery)):
                    if want > 0:
                        self.not_by(bakery, replaced(prices_of(bakery), [at], prices_of(bakery)[at] + 1))

    def test_one_more_where_it_is_not_too_much(self):
        self.by(three_days(), [19, 24, 0])
        self.by(three_days(), [20, 23, 0])

    def test_baked_behind_the_stretch(self):
        # Day 0 alone, baked on day 1, costs 7 and 2 * 3; on day 0 it would cost far more.
        bakery = one_good([90, 7], [(2, 9, 0, 2), (5, 1, 0, None)])
        self.by(bakery, [13, -5])
        self.not_by(bakery, [14, -5])
        self.not_by(replaced(bakery, [2, 0, 0, 0, 3], 1), [12, -5])
        self.by(replaced(bakery, [2, 0, 0, 0, 3], None), [108, -5])

    def test_baked_ahead_of_the_stretch(self):
        bakery = one_good([7, 90], [(5, 1, 2, None), (2, 9, 0, None)])
        self.by(bakery, [-5, 13])
        self.not_by(bakery, [-5, 14])
        self.by(replaced(bakery, [2, 0, 1], 0), [-5, 108])

    def test_stretches_without_a_price_let_anything_by(self):
        # Loaves of a day keep no night and none may wait, so each day stands for itself.
        bakery = even_bakery(3, (2, 5, 0, None), light=7, life=0)
        self.by(bakery, [17, 17, 17])
        self.not_by(bakery, [17, 18, 17])
        bakery = even_bakery(4, (2, 5, 0, None), light=7, life=1)
        self.by(bakery, [17, 10, 17, 10])
        self.not_by(bakery, [17, 11, 17, 10])
        self.not_by(bakery, [17, 10, 10, 18])

    def test_stretches_with_days_without_a_want(self):
        # Over day 1, on which nothing is wanted, a stretch has a price, though a loaf for it would have none.
        days = [(2, 5, 0, None), (0, 5, 0, 0), (0, 5, 0, None), (2, 5, 0, None)]
        self.by(one_good([7] * 4, days, life=2), [17, 0, 0, 17])
        self.by(one_good([7] * 4, days, life=3), [17, 0, 0, 10])
        self.not_by(one_good([7] * 4, days, life=3), [17, 0, 0, 11])
        late = [(2, 5, 0, 0), (0, 5, 0, 0), (2, 5, 0, None)]
        self.by(one_good([7, 7, 0], late), [10, 0, 10])
        self.not_by(one_good([7, 7, 0], late), [10, 0, 11])

    def test_a_day_without_a_want_and_without_a_price_parts_no_stretch(self):
        # Loaves keep one night; baked on day 2, days 1 and 3 are met, and day 0, unwanted, has no price there.
        days = [(0, 1, 0, None), (1, 1, 0, 0), (0, 1, 0, None), (1, 1, 0, None)]
        bakery = one_good([50, 50, 3, 50], days, life=1)
        self.by(bakery, [0, 2, 0, 3])
        self.not_by(bakery, [0, 3, 0, 3])


class AgainstEachStretch(Looks):
    def check(self, chance, bakery, step):
        prices = bent_prices(chance, bakery, step)
        told = lets_prices(bakery, prices)
        self.assertIs(told, lets_by_each_stretch(bakery, prices))
        return told

    def test_prices_bent_by_chance(self):
        chance = random.Random(34)
        told = {True: 0, False: 0}
        for _ in range(600):
            bakery = random_bakery(chance, chance.randint(1, 7), fines=chance.random() < 0.7)
            told[self.check(chance, bakery, chance.choice([1, 6]))] += 1
        self.assertGreater(min(told.values()), 100)

    def test_great_ones_bent_by_chance(self):
        chance = random.Random(35)
        for _ in range(60):
            self.check(chance, great_bakery(chance, chance.randint(1, 7)), chance.choice([1, TOP, TOP * TOP]))

    def test_any_prices(self):
        chance = random.Random(36)
        told = {True: 0, False: 0}
        for _ in range(600):
            bakery = random_bakery(chance, chance.randint(1, 5))
            prices = [chance.randint(-9, 12) if want else 0 for want in wants_of(bakery)]
            told[lets_prices(bakery, prices)] += 1
            self.assertIs(lets_prices(bakery, prices), lets_by_each_stretch(bakery, prices))
        self.assertGreater(min(told.values()), 50)

    def test_no_plan_costs_less_than_what_is_let_by(self):
        chance = random.Random(37)
        seen = 0
        for _ in range(600):
            bakery = random_bakery(chance, chance.randint(1, 6))
            prices = bent_prices(chance, bakery, 3)
            if lets_prices(bakery, prices):
                seen += 1
                self.assertLessEqual(sum(prices), least_by_all_sets(bakery))
                self.assertLessEqual(sum(prices), cost_of(bakery, random_plan(chance, bakery)))
        self.assertGreater(seen, 100)


class NoPrices(Looks):
    def test_not_nought_on_a_day_without_a_want(self):
        for number in (1, -1, TOP, -TOP, SIXTY_FIGURES, -SIXTY_FIGURES):
            self.not_by(three_days(), [20, 24, number])
            self.not_by(three_days(), [0, 0, number])
            self.not_by(even_bakery(1, (0, 1, 1, None), light=TOP), [number])
            self.not_by(even_bakery(3, (0, 1, 1, None), light=TOP), [0, number, 0])

    def test_other_lengths(self):
        for thing in ([], [0], [0, 0], [0, 0, 0, 0], [20, 24], [20, 24, 0, 0], [0] * 40, [0] * 1000):
            self.not_by(three_days(), thing)
        self.by(three_days(), [0, 0, 0])
        self.not_by(even_bakery(1, (0, 1, 1, None)), [])

    def test_truths(self):
        self.by(three_days(), [1, 0, 0])
        for at, truth in [(0, True), (0, False), (1, False), (1, True), (2, False), (2, True)]:
            self.not_by(three_days(), replaced([1, 0, 0], [at], truth))
        self.not_by(three_days(), [True, False, False])

    def test_other_things_in_a_numbers_place(self):
        for at in range(3):
            for thing in NO_WHOLE:
                self.not_by(three_days(), replaced([0, 0, 0], [at], thing))

    def test_a_tuple_in_the_lists_place(self):
        self.not_by(three_days(), (0, 0, 0))
        self.not_by(three_days(), (20, 24, 0))
        self.not_by(three_days(), [(20, 24, 0)])
        self.not_by(three_days(), [[20, 24, 0]])

    def test_things_of_other_kinds(self):
        for thing in NO_WHOLE + [0, 1, -1, SIXTY_FIGURES, "000", b"000", {0: 0, 1: 0, 2: 0}, {0, 1, 2}, range(3)]:
            self.not_by(three_days(), thing)

    def test_the_prices_of_another_bakery(self):
        self.not_by(three_days(), prices_of(even_bakery(4, (1, 1, 1, 1))))


class Refusals(unittest.TestCase):
    def test_no_bakery_ahead_of_all_else(self):
        for thing in ([0, 0, 0], None, [], "prices"):
            check_refuses_no_bakeries(self, lets_prices, thing)

    def test_not_plain(self):
        for thing in ([0, 0, 0], None, [], "prices"):
            check_refuses_not_plain(self, lets_prices, thing)

    def test_changed_in_place_and_asked_again(self):
        bakery, prices = three_days(), [20, 24, 0]
        self.assertIs(lets_prices(bakery, prices), True)
        bakery[0][0] = 9
        self.assertIs(lets_prices(bakery, prices), False)
        prices[0] = 19
        self.assertIs(lets_prices(bakery, prices), True)
        prices.append(0)
        self.assertIs(lets_prices(bakery, prices), False)

    def test_it_is_written_in_pricelook(self):
        self.assertEqual(pricelook.lets_prices.__module__, "bakeahead.pricelook")


if __name__ == "__main__":
    unittest.main()
