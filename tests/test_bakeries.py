import copy
import unittest

from bakeahead import bakeries
from bakeahead.bakeries import is_day, is_plain, look_at_bakery
from helpers import (
    NO_BAKERIES, NO_NUMBER, NO_WHOLE, SIXTY_FIGURES, TOP, at_path, check_refused, even_bakery, one_good, replaced,
    three_days, two_goods,
)

NO_TUPLE = [None, True, 0, 3, "", "abc", b"abc", [], {}, set(), object(), len, lambda: 0]
NO_LIST = [None, True, 0, 3, "", "abc", b"abc", (), {}, set(), object(), len, lambda: 0]
NO_BOUND = [thing for thing in NO_NUMBER if thing is not None] + [0]
NO_LIFE = [thing for thing in NO_WHOLE if thing is not None] + [-1, -40, 41, 42, TOP, SIXTY_FIGURES, -SIXTY_FIGURES]
NO_FINE = [thing for thing in NO_NUMBER if thing is not None]


def all_days(many):
    return even_bakery(many, (1, 2, 3, 4), goods=2)


class Refusing(unittest.TestCase):
    def refused(self, thing, good, day):
        with self.subTest(thing=thing):
            check_refused(self, good, day, look_at_bakery, thing)
            check_refused(self, good, day, is_plain, thing)

    def spoilt(self, bakery, path, things, good, day):
        for thing in things:
            self.refused(replaced(bakery, path, thing), good, day)


class GoodBakeries(unittest.TestCase):
    def let_by(self, bakery):
        before = repr(bakery)
        self.assertIsNone(look_at_bakery(bakery))
        self.assertEqual(repr(bakery), before)

    def test_fewest_and_most_days(self):
        for many in (1, 2, 39, 40):
            self.let_by(all_days(many))
            self.let_by(even_bakery(many, (1, 2, 3, None)))

    def test_bounds(self):
        for bound in (None, 1, 2, TOP - 1, TOP):
            for goods in (1, 2):
                self.let_by(even_bakery(3, (1, 2, 3, None), bound=bound, goods=goods))

    def test_lives(self):
        for life in (None, 0, 1, 39, 40):
            for many in (1, 5, 40):
                self.let_by(even_bakery(many, (1, 2, 3, 4), life=life, goods=2))

    def test_lives_of_two_goods_are_their_own(self):
        self.let_by(replaced(two_goods(), [2, 0, 1], None))
        self.let_by(replaced(two_goods(), [2, 1, 1], 40))

    def test_least_and_greatest_numbers(self):
        for number in (0, TOP):
            for fine in (None, 0, TOP):
                self.let_by(even_bakery(40, (number, number, number, fine), light=number, goods=2))

    def test_days_may_differ(self):
        self.let_by(three_days())
        self.let_by(two_goods())


class WrongForms(Refusing):
    def test_things_of_no_such_form(self):
        for thing in NO_TUPLE + [-1, (), (1,), (1, 2), (1, 2, 3), [1, 2, 3], "abc", {0: [], 1: None, 2: []}]:
            self.refused(thing, None, None)

    def test_one_thing_too_few_or_too_many(self):
        lights, bound, goods = two_goods()
        for thing in [(lights, bound), (lights, goods), (lights, bound, goods, None), (lights,)]:
            self.refused(thing, None, None)

    def test_a_list_of_three(self):
        self.refused(list(two_goods()), None, None)

    def test_lights(self):
        self.spoilt(two_goods(), [0], NO_LIST + [(10, 20, 30, 40), [], {0: 1, 1: 1, 2: 1, 3: 1}], None, None)

    def test_each_light(self):
        for at in (0, 1, 3):
            self.spoilt(two_goods(), [0, at], NO_NUMBER, None, None)

    def test_no_days_and_too_many_days(self):
        for many in (0, 41, 42, 100):
            self.refused(all_days(many), None, None)

    def test_bound(self):
        self.spoilt(two_goods(), [1], NO_BOUND, None, None)
        self.spoilt(three_days(), [1], NO_BOUND, None, None)

    def test_goods(self):
        goods = two_goods()[2]
        wrong = NO_LIST + [tuple(goods), [], goods + goods[:1], goods + goods, {0: goods[0]}, [1, 2, 3]]
        self.spoilt(two_goods(), [2], wrong, None, None)


class WrongGoods(Refusing):
    def test_each_good(self):
        for good in (0, 1):
            days, life = two_goods()[2][good]
            wrong = NO_TUPLE + [(), (days,), (days, life, None), [days, life], (life, days)]
            self.spoilt(two_goods(), [2, good], wrong, good, None)

    def test_the_only_good(self):
        self.spoilt(three_days(), [2, 0], NO_TUPLE, 0, None)

    def test_days(self):
        for good in (0, 1):
            days = two_goods()[2][good][0]
            wrong = NO_LIST + [tuple(days), [], days[:3], days[:1], days + days[:1], days + days]
            self.spoilt(two_goods(), [2, good, 0], wrong, good, None)

    def test_as_many_days_as_lights(self):
        for many in (1, 2, 39):
            self.refused(replaced(all_days(many), [0], [1] * (many + 1)), 0, None)
        for many in (2, 40):
            self.refused(replaced(all_days(many), [0], [1] * (many - 1)), 0, None)

    def test_life(self):
        for good in (0, 1):
            self.spoilt(two_goods(), [2, good, 1], NO_LIFE, good, None)

    def test_forty_one_nights_of_forty_days(self):
        self.refused(even_bakery(40, (1, 2, 3, 4), life=41), 0, None)


class WrongDays(Refusing):
    def each_day(self):
        for good in (0, 1):
            for day in (0, 1, 3):
                yield good, day

    def test_each_day(self):
        for good, day in self.each_day():
            parts = two_goods()[2][good][0][day]
            wrong = NO_TUPLE + [(), parts[:3], parts[1:], parts + (1,), parts + (None,), list(parts), parts + parts]
            self.spoilt(two_goods(), [2, good, 0, day], wrong, good, day)

    def test_each_part(self):
        for good, day in self.each_day():
            for part in (0, 1, 2):
                self.spoilt(two_goods(), [2, good, 0, day, part], NO_NUMBER, good, day)
            self.spoilt(two_goods(), [2, good, 0, day, 3], NO_FINE, good, day)

    def test_the_last_of_forty_days(self):
        for good in (0, 1):
            for day in (0, 20, 39):
                self.spoilt(all_days(40), [2, good, 0, day], [None, (1, 2, 3, True), [1, 2, 3, 4]], good, day)


class TheFirstWrongThing(Refusing):
    def twice(self, bakery, changes, good, day):
        for path, thing in changes:
            bakery = replaced(bakery, path, thing)
        self.refused(bakery, good, day)

    def test_two_wrong_days_of_a_good(self):
        self.twice(two_goods(), [([2, 0, 0, 3], None), ([2, 0, 0, 1], None)], 0, 1)

    def test_wrong_days_of_both_goods(self):
        self.twice(two_goods(), [([2, 1, 0, 0], None), ([2, 0, 0, 3], None)], 0, 3)

    def test_a_wrong_day_and_a_wrong_life_of_a_good(self):
        self.twice(two_goods(), [([2, 0, 0, 1], None), ([2, 0, 1], 41)], 0, None)
        self.twice(two_goods(), [([2, 1, 0, 1], None), ([2, 1, 1], True)], 1, None)

    def test_a_wrong_day_and_days_too_few(self):
        self.twice(two_goods(), [([2, 0, 0], [None, None])], 0, None)

    def test_a_wrong_day_and_a_second_thing_that_is_no_good(self):
        self.twice(two_goods(), [([2, 0, 0, 2], None), ([2, 1], None)], 0, 2)

    def test_a_wrong_day_and_a_wrong_life_of_the_second_good(self):
        self.twice(two_goods(), [([2, 0, 0, 2], None), ([2, 1, 1], -1)], 0, 2)

    def test_a_wrong_life_and_a_wrong_day_of_the_second_good(self):
        self.twice(two_goods(), [([2, 0, 1], -1), ([2, 1, 0, 2], None)], 0, None)

    def test_two_things_that_are_no_goods(self):
        self.twice(two_goods(), [([2, 1], None), ([2, 0], None)], 0, None)

    def test_a_wrong_light_and_a_wrong_day(self):
        self.twice(two_goods(), [([0, 3], True), ([2, 0, 0, 0], None)], None, None)

    def test_a_wrong_bound_and_a_wrong_day(self):
        self.twice(two_goods(), [([1], 0), ([2, 0, 0, 0], None)], None, None)

    def test_a_wrong_bound_and_a_thing_that_is_no_good(self):
        self.twice(two_goods(), [([1], True), ([2, 1], None)], None, None)

    def test_three_goods_and_a_wrong_day(self):
        days = (replaced(two_goods(), [2, 0, 0, 0], None))[2]
        self.twice(two_goods(), [([2], days + days[1:])], None, None)

    def test_a_light_too_many_and_a_wrong_day(self):
        self.twice(two_goods(), [([0], [1] * 5), ([2, 0, 0, 0], None)], 0, None)


class Plain(unittest.TestCase):
    def test_one_good_and_no_bound(self):
        for many in (1, 3, 40):
            for life in (None, 0, 40):
                self.assertIs(is_plain(even_bakery(many, (1, 2, 3, None), life=life)), True)
        self.assertIs(is_plain(three_days()), True)

    def test_two_goods_or_a_bound(self):
        for bound, goods in [(1, 1), (TOP, 1), (None, 2), (1, 2), (TOP, 2)]:
            self.assertIs(is_plain(even_bakery(3, (1, 2, 3, 4), bound=bound, goods=goods)), False)

    def test_no_bakeries(self):
        for thing, good, day in NO_BAKERIES:
            check_refused(self, good, day, is_plain, thing)


class Days(unittest.TestCase):
    def test_days(self):
        for part in (0, 1, TOP):
            for fine in (None, 0, 1, TOP):
                self.assertIs(is_day((part, part, part, fine)), True)
        self.assertIs(is_day((0, 1, TOP, None)), True)

    def test_each_part_wrong(self):
        for part in range(3):
            for thing in NO_NUMBER:
                self.assertIs(is_day(replaced((1, 2, 3, 4), [part], thing)), False)
                self.assertIs(is_day(replaced((1, 2, 3, None), [part], thing)), False)
        for thing in NO_FINE:
            self.assertIs(is_day((1, 2, 3, thing)), False)

    def test_things_of_other_forms(self):
        wrong = NO_TUPLE + [
            (), (1,), (1, 2, 3), (1, 2, 3, 4, 5), (1, 2, 3, None, None), [1, 2, 3, 4], ((1, 2, 3, 4),), (None,) * 4,
            "1234", {0: 1, 1: 2, 2: 3, 3: 4}, {1, 2, 3, 4},
        ]
        for thing in wrong:
            with self.subTest(thing=thing):
                self.assertIs(is_day(thing), False)


class NothingIsChanged(unittest.TestCase):
    def test_what_is_handed_in_stays_as_it_was(self):
        for thing in [two_goods(), three_days()] + [thing for thing, good, day in NO_BAKERIES]:
            before = repr(thing)
            for ask in (look_at_bakery, is_plain, is_day):
                try:
                    ask(thing)
                except ValueError:
                    pass
            self.assertEqual(repr(thing), before)

    def test_a_good_bakery_is_let_by_behind_a_refused_one(self):
        for thing, good, day in NO_BAKERIES:
            check_refused(self, good, day, look_at_bakery, thing)
            self.assertIsNone(look_at_bakery(two_goods()))
            self.assertIs(is_plain(three_days()), True)

    def test_what_was_refused_may_be_good_later(self):
        bakery = one_good([1, 2], [(1, 2, 3, 4), None])
        check_refused(self, 0, 1, look_at_bakery, bakery)
        at_path(bakery, [2, 0, 0])[1] = (1, 2, 3, None)
        self.assertIsNone(look_at_bakery(bakery))
        self.assertIs(is_plain(bakery), True)
        bakery[0].append(3)
        check_refused(self, 0, None, look_at_bakery, bakery)

    def test_asked_twice_alike(self):
        for ask in (look_at_bakery, is_plain):
            self.assertIs(ask(two_goods()), ask(copy.deepcopy(two_goods())))

    def test_all_are_written_in_bakeries(self):
        for name in ("look_at_bakery", "is_plain", "is_day"):
            self.assertEqual(getattr(bakeries, name).__module__, "bakeahead.bakeries")


if __name__ == "__main__":
    unittest.main()
