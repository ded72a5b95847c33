"""The errors: point [3] and the interface."""

import unittest

from lateids import errors
from samples import Odd

WITH_STRING = [
    "InvalidHistory", "InvalidPosition", "InvalidOrder", "InvalidMoment", "InvalidPolls", "InvalidId", "InvalidIds",
    "InvalidNumber", "InvalidLog", "InvalidLogs", "InvalidPoll", "InvalidCounts", "InvalidRound", "InvalidName",
    "InvalidCommand", "NothingToUndo",
]
WITH_FIELD = {"NotPossible": "row", "NoFit": "reader", "InvalidText": "position", "TooLarge": "limit"}
ALL = WITH_STRING + list(WITH_FIELD)


class ErrorsTest(unittest.TestCase):

    def test_base_is_directly_a_value_error(self):
        self.assertEqual(errors.LateError.__bases__, (ValueError,))

    def test_there_are_twenty_errors_and_no_others(self):
        found = [name for name, value in vars(errors).items()
                 if isinstance(value, type) and issubclass(value, BaseException)]
        self.assertEqual(sorted(found), sorted(ALL + ["LateError"]))
        self.assertEqual(len(ALL), 20)

    def test_each_error_stands_directly_under_the_base(self):
        for name in ALL:
            error = getattr(errors, name)
            self.assertEqual(error.__bases__, (errors.LateError,), name)
            self.assertEqual(error.__name__, name)
            self.assertEqual(error.__module__, "lateids.errors")

    def test_errors_without_field_take_one_string(self):
        for name in WITH_STRING + ["LateError"]:
            error = getattr(errors, name)("some words")
            self.assertEqual(str(error), "some words")
            self.assertEqual(vars(error), {})

    def test_errors_with_field_keep_any_value(self):
        values = [None, True, 0, -1, 10 ** 30, 10 ** 5000, "", "word", b"x", 1.5, (), [1, [2]], {"a": 1}, {1}, Odd()]
        for name, field in WITH_FIELD.items():
            for value in values:
                for error in [getattr(errors, name)(value), getattr(errors, name)(**{field: value})]:
                    self.assertIs(getattr(error, field), value)
                    self.assertEqual(list(vars(error)), [field])

    def test_errors_with_field_take_exactly_one_value(self):
        for name in WITH_FIELD:
            with self.assertRaises(TypeError):
                getattr(errors, name)()
            with self.assertRaises(TypeError):
                getattr(errors, name)(1, 2)

    def test_an_error_is_caught_by_its_own_class_and_the_bases_only(self):
        for name in ALL:
            error = getattr(errors, name)("word")
            caught = [other for other in ALL + ["LateError"] if isinstance(error, getattr(errors, other))]
            self.assertEqual(caught, [name, "LateError"])
            self.assertIsInstance(error, ValueError)


if __name__ == "__main__":
    unittest.main()
