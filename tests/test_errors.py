"""Point 102: the errors."""

import unittest

from firmground import errors
from firmground.errors import (
    BadLetter, BadPayload, BadProcess, BadSchedule, BadText, GroundError, TapeCrashed,
)

PLAIN = (BadText, BadPayload, BadLetter, BadProcess, TapeCrashed)
ALL_SIX = PLAIN + (BadSchedule,)


class Classes(unittest.TestCase):
    def test_ground_error_is_a_direct_subclass_of_value_error(self):
        self.assertEqual(GroundError.__bases__, (ValueError,))

    def test_the_six_are_direct_subclasses_of_ground_error_only(self):
        for each in ALL_SIX:
            with self.subTest(each=each.__name__):
                self.assertEqual(each.__bases__, (GroundError,))

    def test_none_is_a_subclass_of_another_one(self):
        for one in ALL_SIX:
            for other in ALL_SIX:
                with self.subTest(one=one.__name__, other=other.__name__):
                    self.assertEqual(issubclass(one, other), one is other)

    def test_names_and_home(self):
        names = ("GroundError", "BadText", "BadPayload", "BadLetter", "BadProcess",
                 "TapeCrashed", "BadSchedule")
        for name in names:
            with self.subTest(name=name):
                self.assertEqual(getattr(errors, name).__name__, name)
                self.assertEqual(getattr(errors, name).__module__, "firmground.errors")


class Objects(unittest.TestCase):
    def test_created_without_arguments(self):
        for each in (GroundError,) + PLAIN:
            with self.subTest(each=each.__name__):
                error = each()
                self.assertIs(type(error), each)
                self.assertEqual(error.args, ())

    def test_caught_by_own_name_and_by_the_names_above(self):
        made = [each() for each in PLAIN] + [BadSchedule(3, "verb")]
        for error in made:
            for name in (type(error), GroundError, ValueError):
                with self.subTest(error=type(error).__name__, name=name.__name__):
                    with self.assertRaises(name) as caught:
                        raise error
                    self.assertIs(caught.exception, error)

    def test_bad_schedule_has_line_and_reason(self):
        for line, reason in ((0, "act"), (1, ""), (12, "group"), (10 ** 12, "position")):
            with self.subTest(line=line, reason=reason):
                error = BadSchedule(line, reason)
                self.assertEqual((error.line, error.reason), (line, reason))
                self.assertIs(type(error.line), int)
                self.assertIs(type(error.reason), str)

    def test_bad_schedule_takes_its_arguments_by_name(self):
        error = BadSchedule(reason="number", line=7)
        self.assertEqual((error.line, error.reason), (7, "number"))

    def test_bad_schedule_objects_are_apart(self):
        one, other = BadSchedule(1, "verb"), BadSchedule(2, "count")
        self.assertEqual((one.line, one.reason), (1, "verb"))
        self.assertEqual((other.line, other.reason), (2, "count"))

    def test_bad_schedule_needs_both_arguments(self):
        for given in ((), (1,), (1, "verb", 2)):
            with self.subTest(given=given):
                with self.assertRaises(TypeError):
                    BadSchedule(*given)
