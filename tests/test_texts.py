import random
import re
import unittest

from bakeahead import texts
from bakeahead.cheapest import cheapest
from bakeahead.errors import NoText
from bakeahead.plans import fits
from bakeahead.texts import read_bakery, read_plan, show_bakery, show_plan
from helpers import (
    NO_WHOLE, TOP, all_plans, asked, check_refuses_no_bakeries, even_bakery, great_bakery, one_good, random_bakery,
    random_plan, replaced, three_days, tiny_bakery, two_goods, two_goods_plan,
)

NO_TEXTS = [thing for thing in NO_WHOLE if not isinstance(thing, str)] + [0, 1, -1, ["oven -"], b"oven -", ("", "")]

THREE_DAYS = "oven -\nlights 10 20 30\ngood 1\n2 5 1 3\n4 6 2 -\n0 7 4 9"
TWO_GOODS = (
    "oven 9\nlights 10 20 30 40\ngood 2\n2 5 1 3\n4 6 2 8\n0 7 4 -\n3 2 6 1\ngood -\n1 1 2 -\n0 2 3 5\n5 3 4 7\n2 9 1 2"
)
TWO_GOODS_PLAN = "0 0 0 2\n0 0 1 3\n0 1 0 1\n0 1 2 2\n1 0 3 3\n2 0 1 1\n2 1 3 2\n3 1 2 3"

# Words that write no number, whatever stands around them.
NO_WORDS = [
    "", "00", "01", "007", "+1", "-1", "-0", "--", "1-", "1.0", "1e3", "1_0", "0x1", "x", "one", "None", "True", "1x",
    "x1", "1\t", "\t1", "1,", "~", "1000000001", "9999999999", "10000000000", "1" * 70, "01000000000",
]


def with_rows(text, at, many, *rows):
    """The text with so many rows from a place on replaced by others."""
    parts = text.split("\n")
    return "\n".join(parts[:at] + list(rows) + parts[at + many:])


class Texts(unittest.TestCase):
    def refused(self, row, ask, *handed):
        """The asking is refused with NoText, of just this row, twice alike."""
        before = repr(handed)
        for _ in range(2):
            with self.subTest(handed=handed):
                with self.assertRaises(NoText) as caught:
                    ask(*handed)
                self.assertEqual(repr(caught.exception.row), repr(row))
        self.assertEqual(repr(handed), before)


class BakeriesThere(Texts):
    def both_ways(self, bakery, text=None):
        with self.subTest(bakery=bakery):
            shown = asked(self, show_bakery, bakery)
            if text is not None:
                self.assertEqual(shown, text)
            self.assertIs(type(shown), str)
            self.assertEqual(repr(asked(self, read_bakery, shown)), repr(bakery))

    def test_by_hand(self):
        self.both_ways(three_days(), THREE_DAYS)
        self.both_ways(two_goods(), TWO_GOODS)
        self.both_ways(one_good([0], [(0, 0, 0, None)], life=0, bound=1), "oven 1\nlights 0\ngood 0\n0 0 0 -")
        text = "oven 1000000000\nlights 1000000000\ngood 40\n1000000000 1000000000 1000000000 1000000000"
        self.both_ways(one_good([TOP], [(TOP, TOP, TOP, TOP)], life=40, bound=TOP), text)

    def test_each_number_of_days(self):
        chance = random.Random(81)
        for many in range(1, 41):
            for goods in (1, 2):
                for bound in (None, 1, TOP):
                    self.both_ways(random_bakery(chance, many, goods=goods, bound=bound))
            self.both_ways(great_bakery(chance, many))

    def test_the_longest(self):
        bakery = even_bakery(40, (TOP, TOP, TOP, TOP), light=TOP, life=40, bound=TOP, goods=2)
        self.both_ways(bakery)
        self.assertLessEqual(len(show_bakery(bakery)), 4000)

    def test_each_life(self):
        for life in [None] + list(range(41)):
            self.both_ways(even_bakery(2, (1, 0, 0, None), life=life))

    def test_fines(self):
        for fine in (None, 0, 1, 10, TOP):
            for at in range(3):
                self.both_ways(replaced(three_days(), [2, 0, 0, at, 3], fine))

    def test_no_bakery(self):
        check_refuses_no_bakeries(self, show_bakery)

    def test_what_was_read_is_a_new_one_each_time(self):
        first, second = read_bakery(TWO_GOODS), read_bakery(TWO_GOODS)
        first[0].clear()
        first[2][0][0].clear()
        first[2].clear()
        self.assertEqual(second, two_goods())
        self.assertEqual(read_bakery(TWO_GOODS), two_goods())


ROW_FORMS = {
    "oven": r"oven (-|[1-9]\d*)",
    "lights": r"lights( (0|[1-9]\d*)){1,40}",
    "good": r"good (-|0|[1-9]|[1-3]\d|40)",
    "day": r"(0|[1-9]\d*) (0|[1-9]\d*) (0|[1-9]\d*) (-|0|[1-9]\d*)",
}


def is_form(name, row):
    """Whether a row has a form, and no number in it is too great."""
    return bool(re.fullmatch(ROW_FORMS[name], row)) and all(int(word) <= TOP for word in re.findall(r"\d+", row))


def wrong_bakery_row(text):
    """The row by which a text is refused as a bakery's, None where it is one's."""
    rows = text.split("\n") if text else []
    names = ["oven", "lights"]
    if len(rows) > 1:
        names += (["good"] + ["day"] * (len(rows[1].split(" ")) - 1)) * 2
    for at, row in enumerate(rows):
        if at >= len(names) or not is_form(names[at], row):
            return at
    whole = len(rows) == len(names) or (len(rows) == (len(names) - 2) // 2 + 2 and len(rows) > 2)
    return None if whole else len(rows)


class NoBakeriesTexts(Texts):
    def no_bakery(self, row, text):
        if isinstance(text, str):
            self.assertEqual(wrong_bakery_row(text), row)
        self.refused(row, read_bakery, text)

    def test_no_texts(self):
        for thing in NO_TEXTS:
            self.refused(0, read_bakery, thing)

    def test_the_text_without_signs(self):
        self.no_bakery(0, "")

    def test_rows_too_few(self):
        rows = TWO_GOODS.split("\n")
        for many in range(1, len(rows)):
            text = "\n".join(rows[:many])
            if many == 7:
                self.assertEqual(read_bakery(text), (two_goods()[0], 9, two_goods()[2][:1]))
            else:
                self.no_bakery(many, text)

    def test_rows_too_many(self):
        for row in ("", "1 2 3 4", "good 1", "good -", "oven -", "lights 1", " ", "x"):
            self.no_bakery(12, TWO_GOODS + "\n" + row)
            if row[:4] != "good":
                self.no_bakery(6, THREE_DAYS + "\n" + row)
        self.no_bakery(7, THREE_DAYS + "\ngood 1")
        self.no_bakery(7, THREE_DAYS + "\ngood 1\ngood 1")

    def test_three_goods(self):
        good = "good 1\n2 5 1 3\n4 6 2 -\n0 7 4 9"
        self.assertEqual(len(read_bakery(THREE_DAYS + "\n" + good)[2]), 2)
        self.no_bakery(10, THREE_DAYS + "\n" + good + "\n" + good)

    def test_no_good(self):
        self.no_bakery(2, "oven -\nlights 1 2")
        self.no_bakery(2, "oven -\nlights 1 2\n1 1 1 1")

    def test_lights_and_days_that_do_not_agree(self):
        self.no_bakery(5, "oven -\nlights 1 2 3\ngood 1\n2 5 1 3\n4 6 2 -")
        self.no_bakery(5, "oven -\nlights 1 2\ngood 1\n2 5 1 3\n4 6 2 -\n0 7 4 9")
        self.no_bakery(5, "oven -\nlights 1 2 3\ngood 1\n2 5 1 3\n4 6 2 -\ngood 1")
        self.no_bakery(9, TWO_GOODS.replace("0 2 3 5\n", "").replace("\n5 3 4 7", "\ngood 1"))

    def test_no_lights_and_too_many(self):
        for text in ("lights", "lights ", "lights -", "lights 1 -", "lights" + " 1" * 41):
            self.no_bakery(1, "oven -\n" + text + "\ngood 1\n2 5 1 3")
        days = "\n1 1 1 1" * 40
        self.assertEqual(len(read_bakery("oven -\nlights" + " 1" * 40 + "\ngood 1" + days)[0]), 40)
        self.no_bakery(1, "oven -\nlights" + " 1" * 41 + "\ngood 1" + days + "\n1 1 1 1")

    def test_line_feeds(self):
        self.no_bakery(6, THREE_DAYS + "\n")
        self.no_bakery(6, THREE_DAYS + "\n\n")
        self.no_bakery(0, "\n" + THREE_DAYS)
        self.no_bakery(0, "\n")
        self.no_bakery(1, "oven -\n")
        for at in range(1, 6):
            self.no_bakery(at, with_rows(THREE_DAYS, at, 0, ""))
        self.no_bakery(0, THREE_DAYS.replace("\n", " "))
        self.no_bakery(0, THREE_DAYS.replace("\n", "\n\n").replace("oven -", ""))

    def test_blanks_and_tabs(self):
        for at, row in enumerate(THREE_DAYS.split("\n")):
            for wrong in (" " + row, row + " ", row.replace(" ", "  "), row.replace(" ", "\t"), "\t" + row, row + "\t"):
                self.no_bakery(at, with_rows(THREE_DAYS, at, 1, wrong))
            self.no_bakery(at, with_rows(THREE_DAYS, at, 1, row.replace(" ", "")))

    def test_words_too_few_and_too_many(self):
        for at, row in enumerate(TWO_GOODS.split("\n")):
            if at == 1:
                continue
            self.no_bakery(at, with_rows(TWO_GOODS, at, 1, row + " 1"))
            self.no_bakery(at, with_rows(TWO_GOODS, at, 1, row + " -"))
            self.no_bakery(at, with_rows(TWO_GOODS, at, 1, row.rpartition(" ")[0]))
            self.no_bakery(at, with_rows(TWO_GOODS, at, 1, row.partition(" ")[2]))

    def test_words_that_write_no_number(self):
        for at, row in enumerate(TWO_GOODS.split("\n")):
            words = row.split(" ")
            for place in range(0 if words[0].isdigit() else 1, len(words)):
                for wrong in NO_WORDS:
                    self.no_bakery(at, with_rows(TWO_GOODS, at, 1, " ".join(replaced(words, [place], wrong))))

    def test_the_sign_for_none_in_a_numbers_place(self):
        for at, row in [(3, "- 5 1 3"), (4, "4 - 2 8"), (5, "0 7 - -"), (11, "- - - -"), (1, "lights 10 - 30 40")]:
            self.no_bakery(at, with_rows(TWO_GOODS, at, 1, row))

    def test_numbers_that_are_too_great(self):
        for at, row in [(0, "oven 1000000000"), (1, "lights 1000000000 1 1 1"), (3, "1000000000 1 1 1000000000")]:
            self.assertIsInstance(read_bakery(with_rows(TWO_GOODS, at, 1, row)), tuple)
            self.no_bakery(at, with_rows(TWO_GOODS, at, 1, row.replace("1000000000", "1000000001")))

    def test_bounds(self):
        for word in ("0", "00", "01", "-1", "--", "1000000001", "none", "None"):
            self.no_bakery(0, with_rows(TWO_GOODS, 0, 1, "oven " + word))

    def test_lives(self):
        for word in ("41", "400", "1000000000", "00", "040", "-1", "--", "none"):
            self.no_bakery(2, with_rows(TWO_GOODS, 2, 1, "good " + word))
            self.no_bakery(7, with_rows(TWO_GOODS, 7, 1, "good " + word))

    def test_other_heads(self):
        for at, head in [(0, "oven"), (1, "lights"), (2, "good"), (7, "good")]:
            row = TWO_GOODS.split("\n")[at]
            for other in (head.upper(), head.title(), head[:-1], head + "s", "x" + head, "", "1", "good-", "lights1"):
                self.no_bakery(at, with_rows(TWO_GOODS, at, 1, row.replace(head, other)))
            self.no_bakery(at, with_rows(TWO_GOODS, at, 1, head))

    def test_rows_in_another_order(self):
        rows = TWO_GOODS.split("\n")
        self.no_bakery(0, "\n".join(rows[1:]))
        self.no_bakery(0, "\n".join([rows[1], rows[0]] + rows[2:]))
        self.no_bakery(1, "\n".join([rows[0]] + rows[2:]))
        self.no_bakery(2, "\n".join(rows[:2] + rows[3:]))
        self.no_bakery(0, "\n".join(rows[::-1]))

    def test_the_first_wrong_row_counts(self):
        self.no_bakery(3, with_rows(with_rows(TWO_GOODS, 3, 1, "x"), 5, 1, "y"))
        self.no_bakery(1, "oven -\n")
        self.no_bakery(1, "oven -\nx")

    def test_a_plans_text(self):
        self.no_bakery(0, TWO_GOODS_PLAN)

    def test_signs_by_chance(self):
        chance = random.Random(82)
        seen = set()
        for _ in range(3000):
            signs = list(chance.choice([THREE_DAYS, TWO_GOODS]))
            for _ in range(chance.choice([1, 1, 2])):
                at = chance.randrange(len(signs))
                signs[at:at + chance.randint(0, 1)] = chance.choice(["", "0", "1", "-", " ", "\n", "\t", "o", "4", "~"])
            text = "".join(signs)
            row = wrong_bakery_row(text)
            seen.add(row)
            if row is None:
                self.assertEqual(show_bakery(read_bakery(text)), text)
            else:
                self.refused(row, read_bakery, text)
        self.assertLessEqual(set(range(12)) | {None}, seen)


class PlansThere(Texts):
    def both_ways(self, bakery, plan, text=None):
        with self.subTest(bakery=bakery, plan=plan):
            shown = asked(self, show_plan, plan)
            if text is not None:
                self.assertEqual(shown, text)
            self.assertIs(type(shown), str)
            self.assertEqual(repr(asked(self, read_plan, bakery, shown)), repr(plan))

    def test_by_hand(self):
        self.both_ways(two_goods(), two_goods_plan(), TWO_GOODS_PLAN)
        self.both_ways(three_days(), [(0, 0, 0, 2), (0, 0, 1, 4)], "0 0 0 2\n0 0 1 4")
        self.both_ways(one_good([0], [(TOP, 0, 0, None)], bound=TOP), [(0, 0, 0, TOP)], "0 0 0 1000000000")

    def test_nothing_wanted(self):
        for many in (1, 40):
            for bound in (None, 1):
                for goods in (1, 2):
                    self.both_ways(even_bakery(many, (0, 1, 1, None), bound=bound, goods=goods), [], "")

    def test_many_of_chance(self):
        chance = random.Random(83)
        for many in (1, 2, 4, 6, 11) * 8:
            bakery = random_bakery(chance, many, goods=chance.choice([1, 2]))
            self.both_ways(bakery, random_plan(chance, bakery))

    def test_cheapest_ones(self):
        chance = random.Random(84)
        for many in range(1, 41):
            bakery = great_bakery(chance, many)
            self.both_ways(bakery, cheapest(bakery))

    def test_all_plans_of_tiny_bakeries(self):
        chance = random.Random(85)
        for _ in range(80):
            bakery = tiny_bakery(chance)
            for plan in all_plans(bakery)[:20]:
                self.both_ways(bakery, plan)

    def test_a_long_one(self):
        # Nearly as many rows as 4000 signs hold, with a bound that just suffices.
        bakery = even_bakery(40, (5, 1, 1, 1), bound=10, goods=2)
        heads = [((day + step) % 40, good, day) for good in (0, 1) for day in range(40) for step in range(5)]
        plan = sorted(head + (1,) for head in heads)
        self.assertLessEqual(len(show_plan(plan)), 4000)
        self.both_ways(bakery, plan)

    def test_what_was_read_is_a_new_one_each_time(self):
        first = read_plan(two_goods(), TWO_GOODS_PLAN)
        first.clear()
        self.assertEqual(read_plan(two_goods(), TWO_GOODS_PLAN), two_goods_plan())


def wrong_plan_row(plans, text):
    """The row by which a text is refused, None where it is a plan's; by all plans that fit."""
    rows = text.split("\n") if text else []
    told = [show_plan(plan).split("\n") if plan else [] for plan in plans]
    for at in range(len(rows)):
        if not any(one[:at + 1] == rows[:at + 1] for one in told):
            return at
    return None if rows in told else len(rows)


class NoPlansTexts(Texts):
    def no_plan(self, row, bakery, text):
        self.refused(row, read_plan, bakery, text)

    def test_no_texts(self):
        for thing in NO_TEXTS:
            self.no_plan(0, two_goods(), thing)
            self.no_plan(0, even_bakery(2, (0, 1, 1, 1)), thing)

    def test_no_bakery_ahead_of_all_else(self):
        for thing in ("", TWO_GOODS_PLAN, None, "x"):
            check_refuses_no_bakeries(self, read_plan, thing)

    def test_the_text_without_signs_where_something_is_wanted(self):
        self.no_plan(0, two_goods(), "")
        self.no_plan(0, one_good([1], [(1, 1, 1, None)]), "")

    def test_rows_too_few(self):
        rows = TWO_GOODS_PLAN.split("\n")
        for many in range(8):
            self.no_plan(many, two_goods(), "\n".join(rows[:many]))

    def test_rows_too_many(self):
        for row in ("", "0 0 0 1", "3 1 2 3", "3 1 3 1", "3 1 2 1", "x", "4 0 0 1"):
            self.no_plan(8, two_goods(), TWO_GOODS_PLAN + "\n" + row)
        for row in ("0 0 0 1", "0", "-", " ", "\n", "0 0 0 0"):
            self.no_plan(0, even_bakery(2, (0, 1, 1, 1)), row)

    def test_line_feeds_blanks_and_tabs(self):
        self.no_plan(8, two_goods(), TWO_GOODS_PLAN + "\n")
        self.no_plan(0, two_goods(), "\n" + TWO_GOODS_PLAN)
        self.no_plan(0, two_goods(), "\n")
        for at, row in enumerate(TWO_GOODS_PLAN.split("\n")):
            for wrong in (" " + row, row + " ", row.replace(" ", "  "), row.replace(" ", "\t"), row + "\t", "", " "):
                self.no_plan(at, two_goods(), with_rows(TWO_GOODS_PLAN, at, 1, wrong))
            if at > 0:
                self.no_plan(at, two_goods(), with_rows(TWO_GOODS_PLAN, at, 0, ""))

    def test_words_too_few_and_too_many(self):
        for at, row in enumerate(TWO_GOODS_PLAN.split("\n")):
            for wrong in (row + " 1", row + " -", row[:-2], row[2:], row[:1], row + " " + row):
                self.no_plan(at, two_goods(), with_rows(TWO_GOODS_PLAN, at, 1, wrong))

    def test_words_that_write_no_number(self):
        for at, row in enumerate(TWO_GOODS_PLAN.split("\n")):
            for place in range(4):
                for wrong in NO_WORDS + ["-"]:
                    words = " ".join(replaced(row.split(" "), [place], wrong))
                    self.no_plan(at, two_goods(), with_rows(TWO_GOODS_PLAN, at, 1, words))

    def test_days_and_goods_that_there_are_not(self):
        for at, row in enumerate(TWO_GOODS_PLAN.split("\n")):
            for place, wrong in [(0, "4"), (0, "39"), (1, "2"), (2, "4"), (2, "40"), (3, "0"), (0, "1000000000")]:
                words = " ".join(replaced(row.split(" "), [place], wrong))
                self.no_plan(at, two_goods(), with_rows(TWO_GOODS_PLAN, at, 1, words))

    def test_rows_out_of_order_or_alike(self):
        bakery = even_bakery(2, (2, 1, 1, 1), goods=1)
        self.no_plan(1, bakery, "0 0 1 2\n0 0 0 2")
        self.no_plan(1, bakery, "1 0 0 2\n0 0 1 2")
        self.no_plan(1, bakery, "0 0 0 1\n0 0 0 1\n0 0 1 2")
        self.no_plan(1, bakery, "0 0 0 2\n0 0 0 2")
        goods = even_bakery(1, (2, 1, 1, 1), goods=2)
        # Behind the second good's row there is no day on which the first one's want could be met.
        self.no_plan(0, goods, "0 1 0 2\n0 0 0 2")

    def test_out_of_order_by_a_row_that_could_stand(self):
        # The second row could stand there for the wants alone: what is left can be baked on days behind.
        bakery = even_bakery(3, (1, 1, 1, 1))
        self.no_plan(1, bakery, "0 0 1 1\n0 0 0 1\n0 0 2 1")
        self.no_plan(1, bakery, "0 0 2 1\n0 0 1 1\n0 0 0 1")
        self.no_plan(2, bakery, "0 0 2 1\n1 0 0 1")

    def test_a_loaf_more_than_is_wanted(self):
        bakery = even_bakery(2, (2, 1, 1, 1))
        self.no_plan(0, bakery, "0 0 0 3\n0 0 1 2")
        self.no_plan(1, bakery, "0 0 0 2\n0 0 1 3")
        self.no_plan(1, bakery, "0 0 0 1\n1 0 0 2\n1 0 1 2")
        self.no_plan(2, bakery, "0 0 0 2\n0 0 1 2\n1 0 0 1")

    def test_a_loaf_less_than_is_wanted(self):
        bakery = even_bakery(2, (2, 1, 1, 1))
        # Day 0's other loaf can come on day 1, but not behind a row for day 1's own want.
        self.no_plan(2, bakery, "0 0 0 1\n0 0 1 2")
        self.no_plan(1, bakery, "0 0 0 1\n1 0 1 2")
        self.no_plan(1, bakery, "0 0 0 2\n1 0 1 1")
        unwaiting = even_bakery(2, (2, 1, 1, None))
        self.no_plan(0, unwaiting, "0 0 0 1\n0 0 1 2")
        self.no_plan(1, unwaiting, "0 0 0 2\n1 0 1 1")

    def test_the_last_loaf_too_few_where_no_row_can_follow(self):
        self.no_plan(0, one_good([1], [(2, 1, 1, None)]), "0 0 0 1")
        self.no_plan(1, one_good([1, 1], [(2, 1, 1, 0), (0, 1, 1, None)]), "0 0 0 1")
        self.no_plan(1, one_good([1, 1], [(3, 1, 1, 0), (0, 1, 1, None)]), "0 0 0 1\n1 0 0 1")

    def test_without_a_price(self):
        self.no_plan(1, three_days(), "0 0 0 2\n2 0 1 4")
        self.no_plan(0, even_bakery(2, (1, 1, 1, None), life=0), "0 0 1 1\n1 0 0 1")
        self.no_plan(1, even_bakery(3, (1, 1, 1, None), life=1), "0 0 0 1\n0 0 2 1\n1 0 1 1")
        self.no_plan(0, even_bakery(2, (1, 1, 1, None)), "0 0 1 1\n1 0 0 1")

    def test_more_than_the_bound(self):
        bakery = even_bakery(2, (2, 1, 1, 1), bound=3)
        self.no_plan(1, bakery, "0 0 0 2\n0 0 1 2")
        self.no_plan(2, bakery, "0 0 0 2\n0 0 1 1")
        self.no_plan(0, even_bakery(2, (2, 1, 1, 1), bound=2), "1 0 0 2\n1 0 1 2")

    def test_so_few_on_a_day_that_the_bound_is_too_little_behind(self):
        # Three days of two loaves each, all of them full: on no day may less be baked.
        bakery = even_bakery(3, (2, 1, 1, 1), bound=2)
        self.no_plan(1, bakery, "0 0 0 1\n1 0 0 1\n1 0 1 1\n2 0 1 1\n2 0 2 2")
        self.no_plan(0, bakery, "1 0 0 2\n1 0 1 2\n2 0 2 2")
        self.no_plan(5, bakery, "0 0 0 1\n0 0 1 1\n1 0 0 1\n1 0 1 1\n2 0 2 2\n2 0 1 1")

    def test_no_plan_fits_at_all(self):
        bakery = even_bakery(2, (2, 1, 1, 1), bound=1)
        for text in ("", "0 0 0 1", "0 0 0 1\n1 0 1 1", "x"):
            self.no_plan(0, bakery, text)

    def test_the_plan_of_another_bakery(self):
        self.no_plan(2, two_goods(), "0 0 0 2\n0 0 1 4")
        self.no_plan(2, three_days(), TWO_GOODS_PLAN)

    def test_a_bakerys_text(self):
        self.no_plan(0, three_days(), THREE_DAYS)


class AgainstAllPlans(Texts):
    def check(self, plans, bakery, text):
        row = wrong_plan_row(plans, text)
        if row is None:
            self.assertEqual(show_plan(read_plan(bakery, text)), text)
        else:
            self.refused(row, read_plan, bakery, text)
        return row

    def test_rows_bent_by_chance(self):
        chance = random.Random(86)
        seen = {}
        for _ in range(400):
            bakery = tiny_bakery(chance, loaves=5)
            plans = all_plans(bakery)
            free = all_plans(replaced(bakery, [1], None))
            for _ in range(6):
                rows = [list(row) for row in chance.choice(free)]
                if rows and chance.random() < 0.7:
                    at, place = chance.randrange(len(rows)), chance.randrange(4)
                    rows[at][place] = max(0, rows[at][place] + chance.choice([-1, 1]))
                if chance.random() < 0.5:
                    rows.sort()
                row = self.check(plans, bakery, show_plan(rows))
                seen[row] = seen.get(row, 0) + 1
        self.assertGreater(min(seen[row] for row in (None, 0, 1, 2)), 50)

    def test_each_text_of_two_rows(self):
        days = [(2, 1, 1, 1), (1, 1, 1, None)]
        for bakery in (one_good([1, 1], days), one_good([1, 1], days, bound=2), one_good([1, 1], days, life=0)):
            plans = all_plans(bakery)
            self.assertTrue(all(fits(bakery, plan) for plan in plans))
            rows = [(baked, 0, given, many) for baked in range(2) for given in range(2) for many in range(4)]
            for one in rows:
                for other in rows:
                    self.check(plans, bakery, show_plan([one, other]))


class Written(unittest.TestCase):
    def test_all_are_written_in_texts(self):
        for name in ("show_bakery", "show_plan", "read_bakery", "read_plan"):
            self.assertEqual(getattr(texts, name).__module__, "bakeahead.texts")


if __name__ == "__main__":
    unittest.main()
