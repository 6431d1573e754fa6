"""Point 3: the errors and their fields."""

import unittest

from conflate import errors
from conflate.errors import ConflateError, Inconsistent, InvalidText, TooLarge

WITH_A_STRING = [
    "InvalidKey", "InvalidLog", "InvalidRun", "InvalidWrites", "InvalidItem", "InvalidOrder",
    "InvalidChain", "InvalidLogs", "InvalidWrite", "InvalidCut", "InvalidNumber", "InvalidMirror",
    "InvalidCommand", "NothingToSend", "NothingToUndo",
]
WITH_A_FIELD = {"Inconsistent": "ring", "InvalidText": "position", "TooLarge": "limit"}
ALL = WITH_A_STRING + list(WITH_A_FIELD)


def made(name, value="some words"):
    return getattr(errors, name)(value)


class Classes(unittest.TestCase):
    def test_there_are_eighteen(self):
        self.assertEqual(len(ALL), 18)

    def test_base(self):
        self.assertIs(type(ConflateError), type)
        self.assertEqual(ConflateError.__bases__, (ValueError,))

    def test_each_stands_directly_under_the_base(self):
        for name in ALL:
            with self.subTest(name=name):
                self.assertEqual(getattr(errors, name).__bases__, (ConflateError,))

    def test_each_is_defined_in_this_file_under_its_name(self):
        for name in ALL + ["ConflateError"]:
            with self.subTest(name=name):
                self.assertEqual(getattr(errors, name).__module__, "conflate.errors")
                self.assertEqual(getattr(errors, name).__name__, name)

    def test_no_two_names_are_one_class(self):
        classes = [getattr(errors, name) for name in ALL]
        self.assertEqual(len(set(classes)), len(ALL))


class Catching(unittest.TestCase):
    def test_caught_by_its_own_class(self):
        for name in ALL:
            with self.subTest(name=name):
                with self.assertRaises(getattr(errors, name)) as caught:
                    raise made(name)
                self.assertIs(type(caught.exception), getattr(errors, name))

    def test_caught_as_the_base_and_as_value_error(self):
        for name in ALL:
            for base in (ConflateError, ValueError):
                with self.subTest(name=name, base=base):
                    with self.assertRaises(base):
                        raise made(name)

    def test_not_caught_by_another_class(self):
        for name in ALL:
            for other in ALL:
                if name != other:
                    with self.subTest(name=name, other=other):
                        self.assertFalse(isinstance(made(name), getattr(errors, other)))


class Fields(unittest.TestCase):
    def test_one_string(self):
        for name in WITH_A_STRING:
            for text in ["some words", ""]:
                with self.subTest(name=name, text=text):
                    self.assertEqual(str(made(name, text)), text)

    def test_each_field_has_its_name(self):
        for name, field in WITH_A_FIELD.items():
            for value in [None, 0, 7, 10 ** 30, [], [("a", 1), ("b", 2)]]:
                with self.subTest(name=name, value=value):
                    self.assertEqual(getattr(made(name, value), field), value)

    def test_fields_of_a_raised_error(self):
        for error, field, value in [
            (Inconsistent, "ring", [("a", 2), ("b", 1)]),
            (InvalidText, "position", 2),
            (InvalidText, "position", None),
            (TooLarge, "limit", 60),
        ]:
            for base in (error, ConflateError, ValueError):
                with self.subTest(error=error, base=base):
                    with self.assertRaises(base) as caught:
                        raise error(value)
                    self.assertEqual(getattr(caught.exception, field), value)

    def test_each_object_has_its_own_field(self):
        first, second = TooLarge(60), TooLarge(8)
        self.assertEqual([first.limit, second.limit], [60, 8])

    def test_a_field_error_can_be_shown(self):
        for name in WITH_A_FIELD:
            with self.subTest(name=name):
                self.assertIsInstance(str(made(name, None)), str)


if __name__ == "__main__":
    unittest.main()
