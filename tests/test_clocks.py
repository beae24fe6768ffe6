"""Points 400 and 401: firmground.clocks."""

import itertools
import unittest

from firmground import clocks
from firmground.clocks import merge, zero
from firmground.letters import is_clock


class Zero(unittest.TestCase):
    def test_each_count(self):
        self.assertEqual(zero(1), ((0, 0),))
        self.assertEqual(zero(2), ((0, 0), (0, 0)))
        self.assertEqual(zero(10), ((0, 0),) * 10)
        for count in range(1, 11):
            with self.subTest(count=count):
                self.assertEqual(len(zero(count)), count)
                self.assertIs(is_clock(count, zero(count)), True)
                self.assertEqual(set(zero(count)), {(0, 0)})

    def test_somewhat_beyond_the_limit(self):
        self.assertEqual(zero(11), ((0, 0),) * 11)
        self.assertEqual(zero(20), ((0, 0),) * 20)


class Merge(unittest.TestCase):
    def check(self, one, other, expected):
        with self.subTest(one=one, other=other):
            found = merge(one, other)
            self.assertEqual(found, expected)
            self.assertIs(type(found), tuple)
            self.assertEqual({type(pair) for pair in found}, {tuple})

    def test_the_greater_pair_on_either_side(self):
        self.check(((0, 3),), ((0, 5),), ((0, 5),))
        self.check(((0, 5),), ((0, 3),), ((0, 5),))
        self.check(((0, 3), (0, 9)), ((0, 5), (0, 2)), ((0, 5), (0, 9)))
        self.check(((0, 5), (0, 2)), ((0, 3), (0, 9)), ((0, 5), (0, 9)))

    def test_the_version_comes_first(self):
        self.check(((1, 2),), ((0, 9),), ((1, 2),))
        self.check(((0, 9),), ((1, 2),), ((1, 2),))
        self.check(((2, 1), (0, 8)), ((1, 10 ** 12), (1, 1)), ((2, 1), (1, 1)))

    def test_equal_pairs(self):
        self.check(((2, 7),), ((2, 7),), ((2, 7),))
        self.check(((0, 0), (3, 4)), ((0, 0), (3, 4)), ((0, 0), (3, 4)))

    def test_the_zero_clock_changes_nothing(self):
        clock = ((0, 3), (0, 0), (4, 1))
        self.check(clock, zero(3), clock)
        self.check(zero(3), clock, clock)
        self.check(zero(3), zero(3), zero(3))

    def test_all_small_clocks(self):
        pairs = [(0, 0), (0, 1), (0, 2), (1, 1), (1, 2), (2, 1)]
        whole = list(itertools.product(pairs, repeat=2))
        for one, other in itertools.product(whole, repeat=2):
            expected = tuple(mine if mine > theirs else theirs for mine, theirs in zip(one, other))
            self.check(one, other, expected)

    def test_great_clocks(self):
        one = tuple((version, 50 - version) for version in range(10))
        other = tuple((9 - version, 7) for version in range(10))
        expected = tuple((9 - at, 7) if at < 5 else (at, 50 - at) for at in range(10))
        self.check(one, other, expected)

    def test_the_arguments_stay(self):
        one, other = ((0, 3), (2, 2)), ((1, 1), (0, 0))
        merge(one, other)
        self.assertEqual((one, other), (((0, 3), (2, 2)), ((1, 1), (0, 0))))


class Home(unittest.TestCase):
    def test_each_function_is_defined_there(self):
        for name in ("zero", "merge"):
            with self.subTest(name=name):
                self.assertEqual(getattr(clocks, name).__module__, "firmground.clocks")

    def test_arguments_by_name(self):
        self.assertEqual(zero(count=1), ((0, 0),))
        self.assertEqual(merge(one=((0, 1),), other=((0, 2),)), ((0, 2),))
