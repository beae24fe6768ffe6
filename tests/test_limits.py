"""Point 103: the limits."""

import unittest

from firmground import limits

VALUES = {
    "MOST_PROCESSES": 10,
    "DESK": -1,
    "CELLS": 4,
    "MOST_VALUE": 1000000,
    "MOST_NESTING": 6,
    "MOST_NUMBER": 1000000000000,
    "MOST_TEXT": 40,
}


class Limits(unittest.TestCase):
    def test_each_name_and_its_value(self):
        for name, value in VALUES.items():
            with self.subTest(name=name):
                self.assertEqual(getattr(limits, name), value)
                self.assertIs(type(getattr(limits, name)), int)

    def test_no_other_name(self):
        names = {name for name in vars(limits) if not name.startswith("_")}
        self.assertEqual(names, set(VALUES))
