import random
import unittest

from bakeahead import desk as module
from bakeahead.desk import Desk
from bakeahead.errors import BakeError, NoBack, NoDay, NoName, NoRow, NotSteady, TooMany
from bakeahead.ledger import Ledger
from bakeahead.steady import last_lits
from helpers import NO_WHOLE, TOP, Thing

PARTS = ["light", "want", "loaf", "keep", "fine"]
HEADS = ["make", "add", "change", "back", "least", "row", "day", "days", "settled", "last", "twin", "drop", "names"]


def shown(worths):
    return " ".join("-" if worth is None else str(worth) for worth in worths)


def shown_told(numbers):
    return shown(numbers) if numbers else "-"


class Model:
    """Ledgers by names, with the answers that the document tells."""

    def __init__(self):
        self.ledgers = {}

    def make(self, name, life, light, *day):
        self.ledgers[name] = Ledger(([light], None, [([day], life)]))
        return "ok"

    def add(self, name, light, *day):
        self.ledgers[name].add(light, day)
        return "ok"

    def change(self, name, day, part, number):
        return shown_told(self.ledgers[name].change(day, part, number))

    def back(self, name):
        told = self.ledgers[name].back()
        return "ok" if told is None else shown_told(told)

    def least(self, name):
        return str(self.ledgers[name].costs()[-1])

    def row(self, name):
        return shown(self.ledgers[name].costs())

    def day(self, name, day):
        lights, bound, goods = self.ledgers[name].bakery()
        if day >= len(lights):
            raise NoDay("no such day")
        return shown((lights[day],) + goods[0][0][day])

    def days(self, name):
        return str(len(self.ledgers[name].bakery()[0]))

    def settled(self, name):
        many, lit = self.ledgers[name].settled()
        return shown([many] + lit)

    def last(self, name):
        return shown([last_lits(self.ledgers[name].bakery())[-1]])

    def twin(self, name, new):
        self.ledgers[new] = self.ledgers[name].twin()
        return "ok"

    def drop(self, name):
        del self.ledgers[name]
        return "ok"

    def names(self):
        return " ".join(sorted(self.ledgers)) or "-"

    def say(self, head, *worths):
        if head not in ("make", "names") and worths[0] not in self.ledgers:
            raise NoName("no such name")
        return getattr(self, head)(*worths)


def row_for(head, *worths):
    return " ".join([head] + [shown([worth]) for worth in worths])


def outcome(ask, *handed):
    """What is answered, or the class of the refusal."""
    try:
        return ask(*handed)
    except BakeError as error:
        return type(error)


class Desks(unittest.TestCase):
    def says(self, desk, row, answer):
        with self.subTest(row=row):
            told = desk.say(row)
            self.assertIs(type(told), str)
            self.assertEqual(told, answer)

    def refuses(self, desk, error, row):
        """The row is refused so, and all is as ahead of it."""
        with self.subTest(row=row):
            before = self.all_told(desk)
            with self.assertRaises(error) as caught:
                desk.say(row)
            self.assertIs(type(caught.exception), error)
            self.assertEqual(self.all_told(desk), before)

    def all_told(self, desk):
        """All that the desk tells of its ledgers, also what could be taken back."""
        names = [] if desk.say("names") == "-" else desk.say("names").split(" ")
        told = [desk.say("names")]
        for name in names:
            told += [desk.say(f"row {name}"), outcome(desk.say, f"settled {name}"), outcome(desk.say, f"last {name}")]
            told += [desk.say(f"day {name} {day}") for day in range(int(desk.say(f"days {name}")))]
        return told

    def taken_back(self, desk, name):
        """All answers of taking back, till nothing is left."""
        told = []
        while not told or told[-1] is not NoBack:
            told.append(outcome(desk.say, f"back {name}"))
        return told


def week_desk():
    """A desk with a ledger of four days by the name of a."""
    desk = Desk()
    for row in ["make a - 9 3 4 2 -", "add a 9 2 4 2 -", "add a 9 0 4 2 -", "add a 9 5 4 2 -"]:
        desk.say(row)
    return desk


class Rows(Desks):
    def test_none_at_first(self):
        self.says(Desk(), "names", "-")

    def test_make(self):
        desk = Desk()
        self.says(desk, "make a - 9 3 4 2 -", "ok")
        self.says(desk, "day a 0", "9 3 4 2 -")
        self.says(desk, "make b 40 1000000000 0 1 2 1000000000", "ok")
        self.says(desk, "day b 0", "1000000000 0 1 2 1000000000")
        self.says(desk, "make c 0 0 0 0 0 0", "ok")
        self.says(desk, "day c 0", "0 0 0 0 0")
        self.says(desk, "names", "a b c")
        self.says(desk, "days a", "1")

    def test_the_life_counts(self):
        # With a light of 4 on day 0 and 9 on day 1, and loaves at 1 that keep for nothing, if at all.
        for life, told in [("-", "0 5 6"), ("40", "0 5 6"), ("1", "0 5 6"), ("0", "0 5 15")]:
            desk = Desk()
            desk.say(f"make a {life} 4 1 1 0 -")
            desk.say("add a 9 1 1 0 -")
            self.says(desk, "row a", told)

    def test_make_in_the_stead_of_one_there(self):
        desk = week_desk()
        self.says(desk, "make a 3 1 2 3 4 5", "ok")
        self.says(desk, "days a", "1")
        self.says(desk, "day a 0", "1 2 3 4 5")
        self.refuses(desk, NoBack, "back a")

    def test_add(self):
        desk = week_desk()
        self.says(desk, "row a", "0 21 33 33 62")
        self.says(desk, "add a 9 1 4 2 -", "ok")
        self.says(desk, "row a", "0 21 33 33 62 68")
        self.says(desk, "add a 0 0 0 0 7", "ok")
        self.says(desk, "day a 5", "0 0 0 0 7")
        self.says(desk, "days a", "6")

    def test_change(self):
        desk = week_desk()
        self.says(desk, "add a 9 1 4 2 -", "ok")
        self.says(desk, "change a 3 want 1", "4 5")
        self.says(desk, "change a 3 want 1", "-")
        self.says(desk, "change a 4 fine 3", "-")
        self.says(desk, "change a 4 fine -", "-")
        self.says(desk, "change a 0 light 10", "1 2 3 4 5")
        self.says(desk, "day a 0", "10 3 4 2 -")
        for part, number in zip(PARTS, [1, 2, 3, 4, 5]):
            desk.say(f"change a 1 {part} {number}")
        self.says(desk, "day a 1", "1 2 3 4 5")

    def test_back(self):
        desk = week_desk()
        for row in ["add a 9 1 4 2 -", "change a 3 want 1", "change a 3 want 1"]:
            desk.say(row)
        for answer in ["-", "4 5", "ok", "ok", "ok", "ok"]:
            self.says(desk, "back a", answer)
        self.refuses(desk, NoBack, "back a")
        self.says(desk, "row a", "0 21")

    def test_least_and_row(self):
        desk = week_desk()
        self.says(desk, "least a", "62")
        self.says(desk, "row a", "0 21 33 33 62")
        desk.say("make b - 1000000000 1000000000 1000000000 0 -")
        self.says(desk, "least b", str(TOP + TOP * TOP))
        self.says(desk, "row b", f"0 {TOP + TOP * TOP}")

    def test_day_and_days(self):
        desk = week_desk()
        for day, told in enumerate(["9 3 4 2 -", "9 2 4 2 -", "9 0 4 2 -", "9 5 4 2 -"]):
            self.says(desk, f"day a {day}", told)
        self.says(desk, "days a", "4")

    def test_settled_and_last(self):
        desk = week_desk()
        self.says(desk, "settled a", "3 0")
        self.says(desk, "last a", "3")
        desk.say("make b - 1 0 1 1 -")
        self.says(desk, "settled b", "0")
        self.says(desk, "last b", "-")
        for _ in range(4):
            desk.say("add b 1 5 1 1 -")
        self.says(desk, "settled b", "4 1 2 3")
        self.says(desk, "last b", "4")

    def test_twin(self):
        desk = week_desk()
        self.says(desk, "twin a b", "ok")
        self.says(desk, "names", "a b")
        self.says(desk, "row b", "0 21 33 33 62")
        self.says(desk, "change b 0 light 1", "1 2 3 4")
        self.says(desk, "row a", "0 21 33 33 62")
        self.says(desk, "back a", "ok")
        self.says(desk, "days b", "4")
        self.says(desk, "back b", "1 2 3 4")
        self.says(desk, "back b", "ok")
        self.says(desk, "days b", "3")
        self.says(desk, "row b", desk.say("row a"))

    def test_twin_of_itself(self):
        desk = week_desk()
        desk.say("change a 0 light 1")
        self.says(desk, "twin a a", "ok")
        self.says(desk, "names", "a")
        self.assertEqual(self.taken_back(desk, "a"), ["1 2 3 4", "ok", "ok", "ok", NoBack])

    def test_twin_in_anothers_stead(self):
        desk = week_desk()
        desk.say("make b 3 1 2 3 4 5")
        self.says(desk, "twin a b", "ok")
        self.says(desk, "day b 0", "9 3 4 2 -")
        self.says(desk, "days b", "4")
        self.says(desk, "drop a", "ok")
        self.says(desk, "days b", "4")

    def test_drop(self):
        desk = week_desk()
        desk.say("twin a b")
        self.says(desk, "drop a", "ok")
        self.says(desk, "names", "b")
        self.refuses(desk, NoName, "drop a")
        self.says(desk, "drop b", "ok")
        self.says(desk, "names", "-")
        self.says(desk, "make a - 1 1 1 1 1", "ok")
        self.refuses(desk, NoBack, "back a")

    def test_names_are_sorted(self):
        desk = Desk()
        for name in ["m", "zz", "a", "ab", "aa", "b", "names", "abcdefgh"]:
            desk.say(f"make {name} - 1 1 1 1 1")
        self.says(desk, "names", "a aa ab abcdefgh b m names zz")

    def test_words_of_rows_as_names(self):
        desk = Desk()
        for at, name in enumerate(HEADS + PARTS + ["ok", "life"]):
            self.says(desk, f"make {name} - {at} 1 1 1 1", "ok")
            self.says(desk, f"day {name} 0", f"{at} 1 1 1 1")
        self.says(desk, "twin twin day", "ok")
        self.says(desk, "day day 0", "10 1 1 1 1")
        self.says(desk, "drop drop", "ok")
        self.says(desk, "least least", "5")
        self.says(desk, "change change 0 light 0", "1")
        self.says(desk, "add add 1 1 1 1 -", "ok")
        self.says(desk, "back add", "ok")

    def test_all_letters(self):
        desk = Desk()
        for name in ["abcdefgh", "ijklmnop", "qrstuvwx", "yz", "z", "a"]:
            self.says(desk, f"make {name} - 1 1 1 1 1", "ok")

    def test_two_desks_have_nothing_in_common(self):
        one, other = week_desk(), Desk()
        self.says(other, "names", "-")
        self.refuses(other, NoName, "row a")
        other.say("make a - 1 1 1 1 1")
        self.says(one, "days a", "4")
        one.say("drop a")
        self.says(other, "days a", "1")
        self.says(other, "names", "a")
        self.says(one, "names", "-")

    def test_asked_twice_told_alike(self):
        desk = week_desk()
        self.assertEqual(self.all_told(desk), self.all_told(desk))

    def test_it_is_written_in_desk(self):
        self.assertEqual(module.Desk.__module__, "bakeahead.desk")
        self.assertIn("say", vars(module.Desk))


# Rows that are none, for any desk.
NO_ROWS = [
    "", " ", "  ", "\n", "\t", "ok", "-", "0", "a", "Names", "NAMES", "name", "namess", "names ", " names", "names\n",
    "\nnames", "names\t", "\tnames", "names a", "names -", "names names", "names  ", "help", "make", "make a", "make ",
    "make a - 9 3 4 2", "make a - 9 3 4 2 - -", "make a - 9 3 4 2 -  ", "make a - 9 3 4 2 - ", " make a - 9 3 4 2 -",
    "make  a - 9 3 4 2 -", "make a  - 9 3 4 2 -", "make a - 9  3 4 2 -", "make a - 9 3 4 2  -", "make a - 9 3 4 2 -\n",
    "make a\t- 9 3 4 2 -", "make\ta - 9 3 4 2 -", "make\na - 9 3 4 2 -", "make a - 9 3 4\n2 -", "make  - 9 3 4 2 -",
    "make - - 9 3 4 2 -", "Make a - 9 3 4 2 -", "make a 9 3 4 2 -", "makea - 9 3 4 2 -", "make a b 9 3 4 2 -",
    "add", "add a", "add a 9 2 4 2", "add a 9 2 4 2 - -", "add a - 2 4 2 -", "add a 9 2 4 2 - ", "add  a 9 2 4 2 -",
    "change", "change a", "change a 0", "change a 0 want", "change a 0 want 1 1", "change a want 0 1",
    "change a 0 want 1 ", "change a 0  want 1", "change a 0 1 want", "change 0 a want 1", "change a 0 want want",
    "back", "back ", "back  ", "back a ", " back a", "back  a", "back a a", "back a\n", "back\ta", "back -", "back 0",
    "least", "least a a", "least a ", "row", "row a a", "row  a", "row a\t", "day", "day a", "day a ", "day a  0",
    "day 0 a",
    "day a 0 0", "day a 0 ", "day a\n0", "days", "days a 0", "days a ", "settled", "settled a a", "settled ", "last",
    "last a a", "last a ", "twin", "twin a", "twin a ", "twin a b c", "twin a  b", "twin a b ", "twin a B", "twin A b",
    "twin a -", "twin - a", "twin a 0", "drop", "drop a a", "drop a ", "drop A", "names\nnames", "row a\nrow a",
    "make a - 9 3 4 2 - names", "a row", "row,a", "row a;", "row 'a'", "row(a)", "row.a",
]
NO_NAMES = [
    "A", "Ab", "aB", "abcdefghi", "abcdefghijklmnop", "a1", "1", "1a", "a-", "-", "_", "a_", "a.", "", "a\t", "\ta",
    "a\n",
    "~", "{", "`", "@", "[", "a,b", "ab'", "*",
]
NO_FIGURES = [
    "00", "01", "007", "0000000001", "+1", "-1", "-0", "+0", "1.", "1.0", ".5", "1e3", "0x1", "1_0", "1,0", "one", "--",
    "",
    "\t1", "1\t", "1\n", "None", "null", "nan", "1000000001", "1000000002", "9999999999", "10000000000", "1" * 60,
    "0" * 20, "True", "a", "#", "/", ":", "1:", "(1)", "[1]", "'1'",
]


class NoRows(Desks):
    def test_rows_that_are_none(self):
        for desk in (Desk(), week_desk()):
            for row in NO_ROWS:
                self.refuses(desk, NoRow, row)

    def test_what_is_no_text(self):
        desk = week_desk()
        for row in NO_WHOLE + [0, 1, Thing(), b"names", ["names"], ("names",), {"names": 1}, ["row", "a"]]:
            if not isinstance(row, str):
                self.refuses(desk, NoRow, row)

    def test_names_that_are_none(self):
        desk = week_desk()
        for name in NO_NAMES:
            for row in [f"make {name} - 9 3 4 2 -", f"add {name} 9 3 4 2 -", f"change {name} 0 want 1", f"back {name}",
                        f"least {name}", f"row {name}", f"day {name} 0", f"days {name}", f"settled {name}",
                        f"last {name}", f"twin {name} b", f"twin a {name}", f"drop {name}"]:
                self.refuses(desk, NoRow, row)

    def test_numbers_that_are_none(self):
        desk = week_desk()
        for word in NO_FIGURES:
            for at in range(6):
                words = ["-", "9", "3", "4", "2", "-"]
                words[at] = word
                self.refuses(desk, NoRow, "make b " + " ".join(words))
                if at > 0:
                    self.refuses(desk, NoRow, "add a " + " ".join(words[1:]))
            for part in PARTS:
                self.refuses(desk, NoRow, f"change a 0 {part} {word}")

    def test_a_day_that_is_none(self):
        desk = week_desk()
        for word in NO_FIGURES + ["-", "100", "101", "999", "1000", "000", "001", "00", "010", "1000000000"]:
            self.refuses(desk, NoRow, f"day a {word}")
            self.refuses(desk, NoRow, f"change a {word} want 1")

    def test_a_life_above_forty(self):
        desk = Desk()
        for life in range(41):
            self.says(desk, f"make a {life} 1 1 1 1 1", "ok")
        for life in ("41", "42", "99", "100", "1000000000"):
            self.refuses(desk, NoRow, f"make a {life} 1 1 1 1 1")

    def test_a_part_that_is_none(self):
        desk = week_desk()
        for part in ["life", "lights", "Light", "WANT", "wan", "wants", "day", "bound", "name", "-", "0", "finee", "a",
                     "keep\n", "\tkeep"]:
            self.refuses(desk, NoRow, f"change a 0 {part} 1")
            self.refuses(desk, NoRow, f"change a 0 {part} -")

    def test_none_as_a_number_of_other_parts(self):
        desk = week_desk()
        for part in ["light", "want", "loaf", "keep"]:
            self.refuses(desk, NoRow, f"change a 0 {part} -")
            self.refuses(desk, NoRow, f"change a 77 {part} -")
            self.refuses(desk, NoRow, f"change nobody 0 {part} -")
        self.says(desk, "change a 0 fine -", "-")
        for at in range(4):
            words = ["9", "3", "4", "2", "-"]
            words[at] = "-"
            self.refuses(desk, NoRow, "make b - " + " ".join(words))
            self.refuses(desk, NoRow, "add a " + " ".join(words))

    def test_ahead_of_no_name(self):
        desk = Desk()
        for row in ["add a 9 2 4 2", "change a 0 want -", "change a 0 life 1", "change a 100 want 1", "day a 00",
                    "day a 100", "back a a", "twin a B", "twin a", "drop a "]:
            self.refuses(desk, NoRow, row)


class OtherRefusals(Desks):
    def test_no_name(self):
        for desk in (Desk(), week_desk()):
            for row in ["add b 9 2 4 2 -", "change b 0 want 1", "back b", "least b", "row b", "day b 0", "days b",
                        "settled b", "last b", "twin b a", "twin b b", "twin b c", "drop b"]:
                self.refuses(desk, NoName, row)

    def test_no_name_ahead_of_what_the_ledger_refuses(self):
        desk = week_desk()
        for row in ["change b 99 want 1", "day b 99", "back b", "settled b"]:
            self.refuses(desk, NoName, row)

    def test_no_day(self):
        desk = week_desk()
        for day in (4, 5, 9, 10, 40, 99):
            self.refuses(desk, NoDay, f"day a {day}")
            for part in PARTS:
                self.refuses(desk, NoDay, f"change a {day} {part} 1")
            self.refuses(desk, NoDay, f"change a {day} fine -")
        desk.say("add a 1 1 1 1 -")
        self.says(desk, "day a 4", "1 1 1 1 -")

    def test_too_many(self):
        desk = Desk()
        desk.say("make a - 1 1 1 1 -")
        for many in range(2, 41):
            self.says(desk, "add a 1 1 1 1 -", "ok")
            self.says(desk, "days a", str(many))
        self.refuses(desk, TooMany, "add a 1 1 1 1 -")
        self.refuses(desk, NoRow, "add a 1 1 1 - -")
        self.says(desk, "day a 39", "1 1 1 1 -")
        self.says(desk, "back a", "ok")
        self.says(desk, "add a 2 2 2 2 2", "ok")
        self.says(desk, "day a 39", "2 2 2 2 2")

    def test_no_back(self):
        desk = Desk()
        desk.say("make a - 1 1 1 1 -")
        self.refuses(desk, NoBack, "back a")
        desk.say("change a 0 want 1")
        self.says(desk, "back a", "-")
        self.refuses(desk, NoBack, "back a")

    def test_a_refused_row_is_no_deed(self):
        desk = week_desk()
        desk.say("change a 0 light 1")
        for row, error in [("change a 9 want 1", NoDay), ("change a 0 want -", NoRow), ("add a 1 1 1 1", NoRow)]:
            self.refuses(desk, error, row)
        self.assertEqual(self.taken_back(desk, "a"), ["1 2 3 4", "ok", "ok", "ok", NoBack])

    def test_not_steady(self):
        desk = week_desk()
        for row in ["change a 1 fine 0", "change a 3 fine 5", "change a 2 loaf 7"]:
            desk.say(row)
            self.refuses(desk, NotSteady, "settled a")
            self.refuses(desk, NotSteady, "last a")
            desk.say("back a")
            self.says(desk, "settled a", "3 0")
            self.says(desk, "last a", "3")


class AgainstALedger(Desks):
    def random_deed(self, chance, steady):
        """A row, well formed, of a name that is perhaps kept, as a list of its words' worths."""
        def number():
            return chance.choice([0, 1, chance.randint(0, 9), chance.randint(0, 9), chance.randint(0, TOP)])

        def fine():
            return None if steady else chance.choice([None, number()])

        def name():
            return chance.choice(["a", "b", "row", "abcdefgh"])
        head = chance.choice(HEADS + ["add", "change"] * 3 + ["back", "settled", "last", "row"])
        if head in ("make", "add"):
            loaf, keep = (2, 3) if steady else (number(), number())
            life = [chance.choice([None, 0, 1, 40])] if head == "make" else []
            return [head, name()] + life + [number(), number(), loaf, keep, fine()]
        if head == "change":
            part = chance.choice(["light", "want"] if steady else PARTS)
            return [head, name(), chance.randint(0, 7), part, fine() if part == "fine" else number()]
        if head == "day":
            return [head, name(), chance.randint(0, 7)]
        if head == "twin":
            return [head, name(), name()]
        return [head] if head == "names" else [head, name()]

    def test_rows_of_chance(self):
        chance = random.Random(301)
        seen = {}
        for at in range(30):
            desk, model = Desk(), Model()
            for _ in range(150):
                words = self.random_deed(chance, at % 2 == 0)
                row = row_for(*words)
                wanted = outcome(model.say, *words)
                told = outcome(desk.say, row)
                with self.subTest(row=row):
                    self.assertEqual(told, wanted)
                kind = wanted if isinstance(wanted, type) else words[0]
                seen[kind] = seen.get(kind, 0) + 1
            self.check_all(desk, model)
        for kind in HEADS + [NoName, NoDay, NoBack, NotSteady]:
            self.assertGreater(seen.get(kind, 0), 10, kind)

    def check_all(self, desk, model):
        """All is told as by the model, also what is taken back."""
        self.says(desk, "names", model.names())
        for name in list(model.ledgers):
            for head in ("row", "least", "days", "settled", "last"):
                self.assertEqual(outcome(desk.say, f"{head} {name}"), outcome(model.say, head, name))
            told = self.taken_back(desk, name)
            self.assertEqual(told, [outcome(model.say, "back", name) for _ in told])


if __name__ == "__main__":
    unittest.main()
