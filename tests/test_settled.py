import random
import unittest

from bakeahead import settled as module
from bakeahead.errors import NoBakery, NotPlain, NotSteady
from bakeahead.rows import least_row
from bakeahead.settled import foresight, settled
from bakeahead.steady import is_steady, last_lits
from helpers import (
    TOP, asked, check_refuses_no_bakeries, check_refuses_not_plain, check_refuses_not_steady, cost_with_lit,
    even_bakery, first_days, great_bakery, made_steady, one_good, random_bakery, random_steady, replaced,
)


def chain(lasts, number):
    """The chain of a number, by the last lit days."""
    return [number] if lasts[number] is None else [number] + chain(lasts, lasts[number])


def settled_by_chains(bakery):
    lasts = last_lits(bakery)
    many = len(bakery[0])
    if lasts[many] is None:
        return (0, [])
    shared = set(range(many + 1))
    for number in range(lasts[many], many):
        shared &= set(chain(lasts, number))
    most = max(shared, default=0)
    return (most, chain(lasts, most)[:0:-1])


def days_from(bakery, first):
    """The bakery of the days from the first one on."""
    lights, bound, goods = bakery
    return (lights[first:], bound, [(days[first:], life) for days, life in goods])


def joined(bakery, behind):
    """The bakery with the days of another one behind its own."""
    return one_good(bakery[0] + behind[0], bakery[2][0][0] + behind[2][0][0], life=bakery[2][0][1])


def least(bakery):
    return least_row(bakery)[-1] if bakery[0] else 0


class Settled(unittest.TestCase):
    def told(self, bakery):
        with self.subTest(bakery=bakery):
            told = asked(self, settled, bakery)
            self.assertEqual(repr(told), repr(settled_by_chains(bakery)))
        return told


class ByHand(Settled):
    def test_the_documents_own_case(self):
        bakery = even_bakery(3, (1, 1, 5, None), light=2)
        self.assertEqual(last_lits(bakery), [None, 0, 1, 2])
        self.assertEqual(self.told(bakery), (2, [0, 1]))
        self.assertEqual(foresight(bakery), [2, 3, None])

    def test_nothing_wanted(self):
        for many in (1, 2, 40):
            bakery = even_bakery(many, (0, 1, 1, None))
            self.assertEqual(self.told(bakery), (0, []))
            self.assertEqual(asked(self, foresight, bakery), [None] * many)

    def test_one_day(self):
        self.assertEqual(self.told(one_good([5], [(1, 1, 1, None)])), (0, []))
        self.assertEqual(asked(self, foresight, one_good([5], [(1, 1, 1, None)])), [None])

    def test_all_on_the_first_day(self):
        bakery = even_bakery(4, (1, 1, 0, None), light=2)
        self.assertEqual(self.told(bakery), (0, []))
        self.assertEqual(asked(self, foresight, bakery), [None] * 4)

    def test_days_without_a_want_ahead_are_settled_with_the_first_want(self):
        # The first want is day 2, and baking ahead of it is dear.
        days = [(0, 1, 9, None), (0, 1, 9, None), (2, 1, 9, None), (2, 1, 9, None)]
        bakery = one_good([5] * 4, days)
        self.assertEqual(last_lits(bakery), [None, None, None, 2, 3])
        self.assertEqual(self.told(bakery), (3, [2]))
        self.assertEqual(self.told(first_days(bakery, 3)), (2, []))
        self.assertEqual(asked(self, foresight, bakery), [3, 3, 4, None])

    def test_settled_without_a_lit_day(self):
        bakery = one_good([2, 2, 9], [(0, 1, 1, None), (1, 1, 1, None), (1, 1, 1, None)])
        self.assertEqual(last_lits(bakery), [None, None, 1, 1])
        self.assertEqual(self.told(bakery), (1, []))

    def test_no_number_stands_in_all_chains(self):
        bakery = one_good([1, 9, 9], [(0, 1, 1, None), (0, 1, 1, None), (1, 1, 1, None)])
        self.assertEqual(last_lits(bakery), [None, None, None, 0])
        self.assertEqual([chain(last_lits(bakery), number) for number in (0, 1, 2)], [[0], [1], [2]])
        self.assertEqual(self.told(bakery), (0, []))

    def test_a_week(self):
        wants = [3, 2, 0, 5, 1, 1, 8]
        bakery = one_good([9] * 7, [(want, 4, 2, None) for want in wants])
        self.assertEqual(last_lits(bakery), [None, 0, 0, 0, 3, 3, 3, 6])
        self.assertEqual(self.told(bakery), (6, [0, 3]))
        self.assertEqual(self.told(first_days(bakery, 6)), (3, [0]))
        self.assertEqual(asked(self, foresight, bakery), [4, 4, 4, 7, 7, 7, None])


class OfChance(Settled):
    def test_by_the_chains(self):
        chance = random.Random(61)
        seen = set()
        for _ in range(400):
            seen.add(self.told(random_steady(chance, chance.randint(1, 9)))[0])
        self.assertGreater(len(seen), 6)

    def test_to_forty_days(self):
        chance = random.Random(62)
        for many in range(1, 41):
            self.told(random_steady(chance, many))
            self.told(made_steady(great_bakery(chance, many, fines=False)))

    def test_the_greatest_numbers(self):
        self.assertEqual(self.told(even_bakery(40, (TOP, TOP, TOP, None), light=TOP)), (39, list(range(39))))
        self.assertEqual(self.told(even_bakery(40, (TOP, TOP, 0, None), light=TOP)), (0, []))
        self.assertEqual(self.told(even_bakery(40, (TOP, TOP, 0, None), light=0)), (39, list(range(39))))

    def test_many_never_goes_back(self):
        chance = random.Random(63)
        for _ in range(60):
            bakery = random_steady(chance, chance.randint(2, 14))
            manys = [settled(first_days(bakery, known))[0] for known in range(1, len(bakery[0]) + 1)]
            self.assertEqual(manys, sorted(manys))

    def test_a_cheapest_plan_of_the_settled_days_has_just_lit_as_its_lit_days(self):
        chance = random.Random(64)
        for _ in range(200):
            bakery = random_steady(chance, chance.randint(1, 12))
            many, lit = settled(bakery)
            self.assertEqual(lit, sorted(set(lit)))
            self.assertTrue(all(0 <= day < many for day in lit))
            if many > 0:
                self.assertEqual(cost_with_lit(first_days(bakery, many), lit), least_row(bakery)[many])


class WhateverComesBehind(unittest.TestCase):
    def check(self, bakery, behind):
        """The least cost of all is that of the settled days, and that of the others, together."""
        many, lit = settled(bakery)
        whole = joined(bakery, behind)
        apart = least(first_days(bakery, many)) + least(days_from(whole, many))
        with self.subTest(bakery=bakery, behind=behind):
            self.assertEqual(least(whole), apart)
        return many

    def test_few_days_of_chance(self):
        chance = random.Random(65)
        seen = {True: 0, False: 0}
        unsteady = 0
        for _ in range(600):
            bakery = random_steady(chance, chance.randint(1, 7))
            for _ in range(3):
                behind = random_bakery(chance, chance.randint(1, 5), fines=chance.random() < 0.5)
                seen[self.check(bakery, behind) > 0] += 1
                unsteady += not is_steady(joined(bakery, behind))
        self.assertGreater(min(seen.values()), 300)
        self.assertGreater(unsteady, 300)

    def test_great_and_many(self):
        chance = random.Random(66)
        for _ in range(40):
            bakery = made_steady(great_bakery(chance, chance.randint(1, 20), fines=False))
            self.check(bakery, great_bakery(chance, chance.randint(1, 20)))
            self.check(bakery, even_bakery(20, (TOP, TOP, 0, None), light=TOP))

    def test_much_dearer_days_behind(self):
        # All that comes behind is better baked on the known days, and kept.
        chance = random.Random(67)
        for _ in range(150):
            bakery = random_steady(chance, chance.randint(1, 8))
            dear = [(chance.randint(0, 9), 99, chance.randint(0, 1), chance.choice([None, 1])) for _ in range(4)]
            self.check(bakery, one_good([99] * 4, dear))


class Foresight(unittest.TestCase):
    def check(self, bakery):
        many = len(bakery[0])
        manys = [settled(first_days(bakery, known))[0] for known in range(1, many + 1)]
        wanted = []
        for day in range(many):
            known = [number for number, most in enumerate(manys, start=1) if most > day]
            wanted.append(known[0] if known else None)
        self.assertEqual(repr(asked(self, foresight, bakery)), repr(wanted))
        return wanted

    def test_of_chance(self):
        chance = random.Random(68)
        nones = 0
        for _ in range(150):
            wanted = self.check(random_steady(chance, chance.randint(1, 10)))
            nones += None in wanted[:-1]
        self.assertGreater(nones, 20)

    def test_forty_days(self):
        chance = random.Random(69)
        self.check(random_steady(chance, 40))
        self.check(made_steady(great_bakery(chance, 40, fines=False)))
        self.assertEqual(self.check(even_bakery(40, (TOP, TOP, TOP, None), light=TOP)), list(range(2, 41)) + [None])

    def test_the_last_day_is_never_settled(self):
        chance = random.Random(70)
        for many in (1, 2, 5, 40):
            self.assertIsNone(foresight(random_steady(chance, many))[-1])


class Refusals(unittest.TestCase):
    def test_no_bakery_ahead_of_all_else(self):
        for ask in (settled, foresight):
            check_refuses_no_bakeries(self, ask)

    def test_not_plain_ahead_of_not_steady(self):
        for ask in (settled, foresight):
            check_refuses_not_plain(self, ask)

    def test_not_steady(self):
        for ask in (settled, foresight):
            check_refuses_not_steady(self, ask)

    def test_in_this_order(self):
        fined = one_good([1, 2], [(1, 2, 3, 4), (1, 9, 3, None)])
        bound = replaced(fined, [1], 5)
        no_bakery = replaced(bound, [2, 0, 0, 1, 0], True)
        for ask in (settled, foresight):
            for bakery, error in [(fined, NotSteady), (bound, NotPlain), (no_bakery, NoBakery)]:
                with self.assertRaises(error):
                    ask(bakery)

    def test_changed_in_place_and_asked_again(self):
        bakery = even_bakery(3, (1, 1, 5, None), light=2)
        told, sooner = settled(bakery), foresight(bakery)
        bakery[2][0][0][2] = (0, 1, 5, None)
        self.assertEqual(settled(bakery), (1, [0]))
        self.assertEqual(foresight(bakery), [2, None, None])
        self.assertEqual(told, (2, [0, 1]))
        self.assertEqual(sooner, [2, 3, None])

    def test_both_are_written_in_settled(self):
        for name in ("settled", "foresight"):
            self.assertEqual(getattr(module, name).__module__, "bakeahead.settled")


if __name__ == "__main__":
    unittest.main()
