"""The refusals: how they stand to each other, and their fields."""

import unittest

from blamewise import errors

MADE_WITH_TEXT = ["NoText", "NoPart", "TooMany"]
MADE_WITH_PLACE = ["NoName", "TooDeep", "NoFit", "NoLook"]


def one_of_each():
    made = [getattr(errors, name)("why") for name in MADE_WITH_TEXT]
    made += [getattr(errors, name)(7) for name in MADE_WITH_PLACE]
    made.append(errors.Parted(3, ("whole",), 1, ("truth",), ("arg", "res")))
    return made


class ErrorsTest(unittest.TestCase):
    def test_blame_error_stands_right_under_value_error(self):
        self.assertEqual(errors.BlameError.__bases__, (ValueError,))
        self.assertEqual(str(errors.BlameError("why")), "why")

    def test_each_is_taken_by_blame_error_and_value_error(self):
        for error in one_of_each():
            for above in (errors.BlameError, ValueError):
                with self.subTest(error=error, above=above), self.assertRaises(above):
                    raise error

    def test_none_is_taken_by_a_sister(self):
        for error in one_of_each():
            with self.subTest(error=error):
                self.assertEqual(type(error).__bases__, (errors.BlameError,))
                taken_by = [type(other) for other in one_of_each() if isinstance(error, type(other))]
                self.assertEqual(taken_by, [type(error)])

    def test_those_made_with_a_text_tell_it(self):
        for name in MADE_WITH_TEXT:
            with self.subTest(name=name):
                self.assertEqual(str(getattr(errors, name)("some words")), "some words")

    def test_those_made_with_a_place_keep_it(self):
        for name in MADE_WITH_PLACE:
            for place in (0, 1, 9999):
                with self.subTest(name=name, place=place):
                    self.assertEqual(getattr(errors, name)(place).place, place)

    def test_parted_keeps_its_five_fields(self):
        error = errors.Parted(3, ("row", ("?",)), 0, ("pair", ("?",), ("?",)), ("arg", "item"))
        self.assertEqual(error.place, 3)
        self.assertEqual(error.kind, ("row", ("?",)))
        self.assertEqual(error.by, 0)
        self.assertEqual(error.wanted, ("pair", ("?",), ("?",)))
        self.assertEqual(error.way, ("arg", "item"))

    def test_two_of_one_class_keep_apart(self):
        first = errors.NoName(1)
        second = errors.NoName(2)
        self.assertEqual((first.place, second.place), (1, 2))


if __name__ == "__main__":
    unittest.main()
