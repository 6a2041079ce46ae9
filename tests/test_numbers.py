import unittest

from bakeahead import numbers
from bakeahead.numbers import is_number, is_whole
from helpers import NO_WHOLE, SIXTY_FIGURES, TOP

NUMBERS = [0, 1, 2, 40, 41, TOP - 1, TOP]
OTHER_WHOLE = [
    -1, -2, -TOP, -TOP - 1, TOP + 1, TOP + 2, 2 ** 31, 2 ** 63, 2 ** 64, 10 ** 18, SIXTY_FIGURES, -SIXTY_FIGURES,
]


class Numbers(unittest.TestCase):
    def test_whole_numbers(self):
        for thing in NUMBERS + OTHER_WHOLE:
            with self.subTest(thing=thing):
                self.assertIs(is_whole(thing), True)

    def test_numbers(self):
        for thing in NUMBERS:
            with self.subTest(thing=thing):
                self.assertIs(is_number(thing), True)

    def test_whole_numbers_that_are_no_numbers(self):
        for thing in OTHER_WHOLE:
            with self.subTest(thing=thing):
                self.assertIs(is_number(thing), False)

    def test_things_of_other_kinds(self):
        for thing in NO_WHOLE:
            with self.subTest(thing=thing):
                self.assertIs(is_whole(thing), False)
                self.assertIs(is_number(thing), False)

    def test_what_is_handed_in_stays_as_it_was(self):
        thing = [1, (2, [3])]
        for ask in (is_whole, is_number):
            ask(thing)
        self.assertEqual(repr(thing), "[1, (2, [3])]")

    def test_both_are_written_in_numbers(self):
        for name in ("is_whole", "is_number"):
            self.assertEqual(getattr(numbers, name).__module__, "bakeahead.numbers")


if __name__ == "__main__":
    unittest.main()
