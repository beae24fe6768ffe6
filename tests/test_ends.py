"""Points 402 to 405: firmground.ends."""

import itertools
import unittest

from firmground import ends as module
from firmground.clocks import zero
from firmground.ends import Ends, Firm

PAIRS = [(version, count) for version in range(5) for count in range(5) if count or not version]

# All rows of up to three ends that leave up to three inputs.
ROWS = [row for length in range(4) for row in itertools.product(range(4), repeat=length)]


def with_row(count, process, row):
    """Ends of a group, those of one process known."""
    made = Ends(count)
    fill(made, process, row)
    return made


def fill(made, process, row):
    for version, stays in enumerate(row):
        assert made.add(process, version, stays)


def clock_with(count, process, pair):
    return zero(count)[:process] + (pair,) + zero(count)[process + 1:]


def is_dead(row, pair):
    """Point 403, word by word."""
    version, count = pair
    return any(other >= version and stays < count for other, stays in enumerate(row))


def is_firm(row, told, pair):
    """Point 405, word by word; told is the list of what was told."""
    version, count = pair
    if count == 0:
        return True
    if not told:
        return False
    other, stays = max(told)
    if other == version and count <= stays:
        return True
    return other > version and len(row) >= other and not is_dead(row, pair)


class Adding(unittest.TestCase):
    def test_nothing_is_known_at_first(self):
        for count in (1, 2, 10):
            made = Ends(count)
            for process in range(count):
                self.assertEqual((made.known(process), made.row(process)), (0, []))
            self.assertIs(made.dead(((3, 10 ** 12),) * count), False)
            self.assertIs(made.dead(zero(count)), False)
            self.assertIs(made.ready(zero(count)), True)
            self.assertIs(made.ready(((0, 7),) * count), True)
            self.assertIs(made.ready(((1, 7),) * count), False)

    def test_the_next_end(self):
        made = Ends(2)
        for version, stays in enumerate([5, 3, 9, 0, 10 ** 12]):
            self.assertIs(made.add(1, version, stays), True)
            self.assertEqual(made.known(1), version + 1)
            self.assertEqual(made.row(1), [5, 3, 9, 0, 10 ** 12][:version + 1])
        self.assertEqual((made.known(0), made.row(0)), (0, []))

    def test_an_earlier_version_and_a_later_one(self):
        made = Ends(2)
        for version in (1, 2, 10 ** 12):
            self.assertIs(made.add(0, version, 4), False)
        self.assertEqual((made.known(0), made.row(0)), (0, []))
        fill(made, 0, (4, 6))
        for version in (0, 1, 3, 4, 10 ** 12):
            for stays in (0, 4, 6):
                self.assertIs(made.add(0, version, stays), False)
        self.assertEqual((made.known(0), made.row(0)), (2, [4, 6]))
        # What was not added has not killed anything either.
        self.assertIs(made.dead(((0, 4), (0, 0))), False)
        self.assertIs(made.dead(((1, 6), (0, 0))), False)
        self.assertIs(made.dead(((2, 9), (0, 0))), False)
        self.assertIs(made.add(0, 2, 1), True)
        self.assertEqual((made.known(0), made.row(0)), (3, [4, 6, 1]))

    def test_the_row_is_a_new_list(self):
        made = with_row(2, 0, (4, 6))
        found = made.row(0)
        self.assertIs(type(found), list)
        found.append(0)
        found[0] = 0
        made.row(1).append(3)
        self.assertEqual((made.known(0), made.row(0)), (2, [4, 6]))
        self.assertEqual((made.known(1), made.row(1)), (0, []))
        self.assertIs(made.dead(((0, 4), (0, 9))), False)
        self.assertIs(made.add(0, 2, 5), True)
        self.assertEqual(found, [0, 6, 0])

    def test_processes_and_objects_are_apart(self):
        made, other = Ends(3), Ends(3)
        fill(made, 0, (1,))
        fill(made, 2, (2, 3))
        self.assertEqual([made.known(process) for process in range(3)], [1, 0, 2])
        self.assertEqual([made.row(process) for process in range(3)], [[1], [], [2, 3]])
        self.assertEqual([other.row(process) for process in range(3)], [[], [], []])

    def test_somewhat_beyond_the_limits(self):
        made = Ends(12)
        for process in range(12):
            self.assertIs(made.add(process, 0, 10 ** 12 + 5), True)
        self.assertEqual(made.row(11), [10 ** 12 + 5])
        self.assertEqual((made.known(12), made.row(12), made.known(20)), (0, [], 0))


class Dead(unittest.TestCase):
    def test_just_inside_and_just_outside(self):
        # The end (1, 5): a pair of a version up to 1 with a count above 5 is dead.
        made = with_row(1, 0, (9, 5))
        for pair, expected in (((1, 5), False), ((1, 6), True), ((1, 4), False),
                               ((0, 5), False), ((0, 6), True), ((0, 9), True), ((0, 10), True),
                               ((2, 5), False), ((2, 6), False), ((2, 10 ** 12), False),
                               ((0, 0), False)):
            with self.subTest(pair=pair):
                self.assertIs(made.dead((pair,)), expected)

    def test_each_end_counts(self):
        # An earlier end leaves less than a later one, and the other way round.
        made = with_row(1, 0, (3, 8))
        for pair, expected in (((0, 3), False), ((0, 4), True), ((0, 8), True), ((0, 9), True),
                               ((1, 4), False), ((1, 8), False), ((1, 9), True), ((2, 9), False)):
            self.assertIs(made.dead((pair,)), expected, pair)

    def test_an_end_that_leaves_nothing(self):
        made = with_row(1, 0, (0,))
        self.assertIs(made.dead(((0, 0),)), False)
        self.assertIs(made.dead(((0, 1),)), True)
        self.assertIs(made.dead(((1, 1),)), False)

    def test_all_small_rows_for_each_process(self):
        for row in ROWS:
            for process in range(3):
                made = with_row(3, process, row)
                for pair in PAIRS:
                    self.assertIs(made.dead(clock_with(3, process, pair)), is_dead(row, pair),
                                  (row, process, pair))
                    for other in {0, 1, 2} - {process}:
                        self.assertIs(made.dead(clock_with(3, other, pair)), False)

    def test_one_dead_pair_is_enough(self):
        made = Ends(3)
        for process, row in enumerate([(4,), (6, 2), ()]):
            fill(made, process, row)
        for clock, expected in ((((0, 4), (0, 2), (0, 9)), False), (((0, 5), (0, 2), (0, 9)), True),
                                (((0, 4), (0, 3), (0, 9)), True), (((0, 5), (0, 3), (0, 9)), True),
                                (((1, 5), (2, 3), (7, 9)), False), (((1, 5), (1, 3), (0, 0)), True)):
            self.assertIs(made.dead(clock), expected, clock)

    def test_many_ends(self):
        row = [(version * 37) % 50 for version in range(60)]
        made = with_row(2, 1, row)
        self.assertEqual(made.row(1), row)
        for version in range(62):
            for count in range(0, 52):
                self.assertIs(made.dead(((0, 0), (version, count))), is_dead(row, (version, count)))


class Ready(unittest.TestCase):
    def test_just_inside_and_just_outside(self):
        for known in range(4):
            for process in range(3):
                made = with_row(3, process, (5,) * known)
                for version in range(6):
                    clock = clock_with(3, process, (version, 3))
                    self.assertIs(made.ready(clock), version <= known)
                for other in {0, 1, 2} - {process}:
                    self.assertIs(made.ready(clock_with(3, other, (0, 3))), True)
                    self.assertIs(made.ready(clock_with(3, other, (1, 3))), False)

    def test_one_pair_that_is_not_ready_is_enough(self):
        made = Ends(3)
        for process, row in enumerate([(4,), (6, 2), ()]):
            fill(made, process, row)
        for clock, expected in ((((1, 1), (2, 1), (0, 1)), True), (((2, 1), (2, 1), (0, 1)), False),
                                (((1, 1), (3, 1), (0, 1)), False), (((1, 1), (2, 1), (1, 1)), False),
                                (((0, 0), (0, 0), (0, 0)), True)):
            self.assertIs(made.ready(clock), expected, clock)

    def test_a_dead_clock_may_be_ready(self):
        made = with_row(1, 0, (4,))
        self.assertIs(made.ready(((0, 9),)), True)
        self.assertIs(made.dead(((0, 9),)), True)


class Firmness(unittest.TestCase):
    def test_nothing_told(self):
        for count in (1, 3, 10):
            made = Firm(count, Ends(count))
            self.assertIs(made.firm(zero(count)), True)
            for process in range(count):
                for pair in ((0, 1), (0, 7), (1, 1), (10 ** 12, 10 ** 12)):
                    self.assertIs(made.firm(clock_with(count, process, pair)), False)

    def test_nothing_told_but_ends_known(self):
        made = Firm(2, with_row(2, 0, (5, 6)))
        self.assertIs(made.firm(zero(2)), True)
        for pair in ((0, 1), (1, 1), (2, 1)):
            self.assertIs(made.firm((pair, (0, 0))), False)

    def test_a_count_of_zero(self):
        for other, stays in ((0, 0), (0, 5), (3, 0), (3, 5)):
            made = Firm(1, Ends(1))
            made.told(0, other, stays)
            self.assertIs(made.firm(((0, 0),)), True)

    def test_the_same_version(self):
        for version in (0, 1, 4):
            made = Firm(2, Ends(2))
            self.assertIsNone(made.told(1, version, 5))
            for count, expected in ((1, True), (4, True), (5, True), (6, False), (10 ** 12, False)):
                self.assertIs(made.firm(((0, 0), (version, count))), expected)
                self.assertIs(made.firm(((version, count), (0, 0))), False)

    def test_a_later_version_needs_the_ends_below_it(self):
        known = Ends(1)
        made = Firm(1, known)
        made.told(0, 2, 9)
        self.assertIs(made.firm(((0, 3),)), False)
        known.add(0, 0, 5)
        self.assertIs(made.firm(((0, 3),)), False)
        self.assertIs(made.firm(((1, 3),)), False)
        known.add(0, 1, 4)
        for pair, expected in (((0, 3), True), ((0, 4), True), ((0, 5), False), ((0, 6), False),
                               ((1, 4), True), ((1, 5), False), ((2, 9), True), ((2, 10), False),
                               ((3, 1), False)):
            self.assertIs(made.firm((pair,)), expected, pair)
        # The end of the version that was told need not be known, but it counts if it is.
        known.add(0, 2, 3)
        for pair, expected in (((0, 3), True), ((0, 4), False), ((1, 3), True), ((1, 4), False),
                               ((2, 9), True)):
            self.assertIs(made.firm((pair,)), expected, pair)

    def test_what_stays_does_not_matter_for_earlier_versions(self):
        for stays in (0, 1, 9):
            made = Firm(1, with_row(1, 0, (4,)))
            made.told(0, 1, stays)
            self.assertIs(made.firm(((0, 4),)), True)
            self.assertIs(made.firm(((0, 5),)), False)

    def test_a_lesser_pair_has_no_effect(self):
        for first, second in (((0, 5), (0, 3)), ((1, 2), (0, 9)), ((1, 2), (1, 1)), ((1, 2), (1, 2))):
            for order in ((first, second), (second, first)):
                made = Firm(1, Ends(1))
                for pair in order:
                    self.assertIsNone(made.told(0, *pair))
                for pair in PAIRS:
                    self.assertIs(made.firm((pair,)), is_firm((), [first], pair), (order, pair))

    def test_a_greater_pair_replaces_the_earlier_one(self):
        made = Firm(1, Ends(1))
        for told in ((0, 1), (0, 4), (1, 2), (3, 1)):
            made.told(0, *told)
            for pair in PAIRS:
                self.assertIs(made.firm((pair,)), is_firm((), [told], pair))

    def test_ends_that_become_known_afterwards(self):
        known = Ends(2)
        made = Firm(2, known)
        made.told(0, 1, 2)
        self.assertIs(made.firm(((0, 2), (0, 0))), False)
        known.add(0, 0, 2)
        self.assertIs(made.firm(((0, 2), (0, 0))), True)
        self.assertIs(made.firm(((0, 3), (0, 0))), False)
        known.add(0, 1, 1)
        self.assertIs(made.firm(((0, 2), (0, 0))), False)
        self.assertEqual(known.row(0), [2, 1])

    def test_all_small_cases_for_each_process(self):
        for process in range(2):
            for row in ROWS:
                known = with_row(2, process, row)
                for told in itertools.product(range(5), range(4)):
                    made = Firm(2, known)
                    made.told(process, *told)
                    for pair in PAIRS:
                        self.assertIs(made.firm(clock_with(2, process, pair)),
                                      is_firm(row, [told], pair), (row, told, pair))

    def test_all_pairs_of_the_clock_must_be_firm(self):
        made = Firm(3, Ends(3))
        for process, stays in enumerate((2, 4, 6)):
            made.told(process, 0, stays)
        for counts in itertools.product((0, 1, 2, 3), (0, 4, 5), (0, 6, 7)):
            expected = counts[0] <= 2 and counts[1] <= 4 and counts[2] <= 6
            self.assertIs(made.firm(tuple((0, count) for count in counts)), expected)

    def test_objects_are_apart(self):
        known = Ends(1)
        one, other = Firm(1, known), Firm(1, known)
        one.told(0, 0, 5)
        self.assertIs(one.firm(((0, 5),)), True)
        self.assertIs(other.firm(((0, 5),)), False)
        self.assertEqual(known.row(0), [])

    def test_somewhat_beyond_the_limits(self):
        made = Firm(12, Ends(12))
        made.told(11, 0, 10 ** 12 + 9)
        self.assertIs(made.firm(clock_with(12, 11, (0, 10 ** 12 + 9))), True)
        self.assertIs(made.firm(clock_with(12, 11, (0, 10 ** 12 + 10))), False)
        for process in (12, 15):
            self.assertIs(made.firm(clock_with(process + 1, process, (0, 1))), False)
            made.told(process, 0, 3)
            self.assertIs(made.firm(clock_with(process + 1, process, (0, 3))), True)
            self.assertIs(made.firm(clock_with(process + 1, process, (0, 4))), False)


class Home(unittest.TestCase):
    def test_each_method_is_defined_in_its_class(self):
        for each, names in ((Ends, ("known", "add", "row", "dead", "ready")),
                            (Firm, ("told", "firm"))):
            self.assertEqual(each.__module__, "firmground.ends")
            self.assertIs(getattr(module, each.__name__), each)
            for name in names:
                with self.subTest(name=name):
                    self.assertIn(name, vars(each))

    def test_arguments_by_name(self):
        made = Ends(count=2)
        self.assertIs(made.add(process=0, version=0, stays=3), True)
        self.assertEqual((made.known(process=0), made.row(process=0)), (1, [3]))
        self.assertIs(made.dead(clock=((0, 4), (0, 0))), True)
        self.assertIs(made.ready(clock=((1, 4), (0, 0))), True)
        firm = Firm(count=2, ends=made)
        firm.told(process=0, version=1, stays=1)
        self.assertIs(firm.firm(clock=((0, 3), (0, 0))), True)
