import unittest

from bakeahead import errors
from bakeahead.errors import BakeError, NoBakery, NoDoughs, NoText, TooMuch

OF_TEXTS = [
    "NoNumber", "NoDay", "NoGood", "NoDays", "NoPart", "NotPlain", "NotSteady", "NoBack", "TooMany", "NoRow", "NoName",
]
ALL = ["NoBakery", "NoDoughs", "TooMuch", "NoText"] + OF_TEXTS


def class_of(name):
    return getattr(errors, name)


class ErrorClasses(unittest.TestCase):
    def test_bake_error_is_right_under_value_error(self):
        self.assertEqual(BakeError.__bases__, (ValueError,))

    def test_each_is_a_bake_error_and_a_value_error(self):
        for name in ALL:
            with self.subTest(name=name):
                self.assertTrue(issubclass(class_of(name), BakeError))
                self.assertTrue(issubclass(class_of(name), ValueError))
                self.assertFalse(issubclass(BakeError, class_of(name)))

    def test_none_is_under_another_one(self):
        for name in ALL:
            for other in ALL:
                if name != other:
                    with self.subTest(name=name, other=other):
                        self.assertFalse(issubclass(class_of(name), class_of(other)))

    def test_each_is_written_in_errors(self):
        for name in ALL + ["BakeError"]:
            self.assertEqual(class_of(name).__module__, "bakeahead.errors")
            self.assertEqual(class_of(name).__name__, name)


class ErrorValues(unittest.TestCase):
    def check_value(self, told, value):
        self.assertEqual(repr(told), repr(value))

    def test_no_bakery_tells_good_and_day(self):
        for good, day in [(None, None), (0, None), (1, None), (0, 0), (1, 39), (0, 7)]:
            error = NoBakery(good, day)
            self.check_value(error.good, good)
            self.check_value(error.day, day)

    def test_no_doughs_tells_day(self):
        for day in [None, 0, 1, 39]:
            self.check_value(NoDoughs(day).day, day)

    def test_too_much_tells_first_and_last(self):
        for first, last in [(0, 0), (0, 39), (3, 5)]:
            error = TooMuch(first, last)
            self.check_value(error.first, first)
            self.check_value(error.last, last)

    def test_no_text_tells_row(self):
        for row in [0, 1, 80]:
            self.check_value(NoText(row).row, row)

    def test_values_are_each_objects_own(self):
        one, other = NoBakery(0, 1), NoBakery(None, None)
        self.assertEqual((one.good, one.day), (0, 1))
        self.assertEqual((other.good, other.day), (None, None))

    def test_the_others_are_made_of_a_text(self):
        for name in OF_TEXTS:
            for text in ["", "why", "a longer text, with signs: 7"]:
                with self.subTest(name=name, text=text):
                    self.assertEqual(str(class_of(name)(text)), text)

    def test_each_is_raised_and_caught_as_a_bake_error(self):
        made = [NoBakery(0, 1), NoDoughs(2), TooMuch(0, 3), NoText(4)] + [class_of(name)("why") for name in OF_TEXTS]
        for error in made:
            with self.assertRaises(BakeError) as caught:
                raise error
            self.assertIs(caught.exception, error)


if __name__ == "__main__":
    unittest.main()
