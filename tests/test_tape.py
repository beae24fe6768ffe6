"""Points 200 to 202: firmground.tape."""

import itertools
import unittest

from firmground import tape
from firmground.errors import TapeCrashed
from firmground.tape import Tape

METHODS = ("append", "sync", "records", "pending", "arm", "crash")


def written(durable, pending):
    """A tape with so many durable and pending records."""
    made = Tape()
    for number in range(durable):
        made.append(number)
    made.sync()
    for number in range(durable, durable + pending):
        made.append(number)
    return made


class Model:
    """A tape told by points 200 to 202 in another way: two lists."""

    def __init__(self):
        self.durable, self.waiting, self.left, self.down = [], [], None, False

    def operate(self):
        if not self.down and self.left is not None:
            self.left -= 1
            self.down = self.left < 0
        if self.down:
            raise TapeCrashed()

    def append(self, record):
        self.operate()
        self.waiting.append(record)

    def sync(self):
        self.operate()
        self.durable, self.waiting = self.durable + self.waiting, []

    def records(self):
        if self.down:
            raise TapeCrashed()
        return self.durable + self.waiting

    def pending(self):
        return len(self.waiting)

    def arm(self, count):
        if not self.down:
            self.left = count

    def crash(self, keep):
        self.durable, self.waiting = self.durable + self.waiting[:keep], []
        self.left, self.down = None, False


class Checks(unittest.TestCase):
    def holds(self, made, records, pending):
        self.assertEqual(made.records(), records)
        self.assertEqual(made.pending(), pending)

    def is_down(self, made, pending):
        for _ in range(2):
            with self.assertRaises(TapeCrashed):
                made.append("x")
            with self.assertRaises(TapeCrashed):
                made.sync()
            with self.assertRaises(TapeCrashed):
                made.records()
            self.assertEqual(made.pending(), pending)


class Records(Checks):
    def test_a_new_tape(self):
        self.holds(Tape(), [], 0)

    def test_append_adds_a_pending_record_at_the_end(self):
        made = Tape()
        for number, record in enumerate([("start",), ("end", 0, 3), ("start",), 5, "text", None]):
            self.assertIsNone(made.append(record))
            self.assertEqual(made.records()[-1], record)
            self.assertEqual(made.pending(), number + 1)
        self.assertEqual(made.records(), [("start",), ("end", 0, 3), ("start",), 5, "text", None])

    def test_sync_makes_all_durable(self):
        made = Tape()
        self.assertIsNone(made.sync())
        self.holds(made, [], 0)
        made.append("a")
        made.append("b")
        self.assertIsNone(made.sync())
        self.holds(made, ["a", "b"], 0)
        made.sync()
        self.holds(made, ["a", "b"], 0)
        made.append("c")
        self.holds(made, ["a", "b", "c"], 1)
        made.sync()
        self.holds(made, ["a", "b", "c"], 0)

    def test_records_returns_a_new_list(self):
        made = written(2, 1)
        found = made.records()
        self.assertIs(type(found), list)
        found.append("x")
        found[0] = "y"
        self.holds(made, [0, 1, 2], 1)
        made.records().clear()
        made.append(3)
        self.holds(made, [0, 1, 2, 3], 2)
        self.assertEqual(found, ["y", 1, 2, "x"])

    def test_the_records_themselves_are_kept(self):
        record = ("input", -1, 1, ("show", 0), ((0, 0),))
        made = Tape()
        made.append(record)
        self.assertIs(made.records()[0], record)
        made.crash(1)
        self.assertIs(made.records()[0], record)

    def test_tapes_are_apart(self):
        one, other = written(1, 1), written(0, 3)
        one.arm(0)
        other.append(3)
        self.holds(one, [0, 1], 1)
        self.holds(other, [0, 1, 2, 3], 4)


class Crash(Checks):
    def test_each_keep(self):
        for durable in range(4):
            for pending in range(4):
                for keep in (0, 1, 2, 3, 4, 7, 10 ** 12):
                    with self.subTest(durable=durable, pending=pending, keep=keep):
                        made = written(durable, pending)
                        self.assertIsNone(made.crash(keep))
                        self.holds(made, list(range(durable + min(keep, pending))), 0)

    def test_what_was_kept_is_durable(self):
        made = written(1, 3)
        made.crash(2)
        made.crash(0)
        self.holds(made, [0, 1, 2], 0)
        made.append("a")
        self.holds(made, [0, 1, 2, "a"], 1)
        made.crash(0)
        self.holds(made, [0, 1, 2], 0)
        made.append("b")
        made.sync()
        made.crash(0)
        self.holds(made, [0, 1, 2, "b"], 0)

    def test_on_a_tape_without_records(self):
        made = Tape()
        made.crash(3)
        self.holds(made, [], 0)
        made.append("a")
        self.holds(made, ["a"], 1)


class Arm(Checks):
    def test_it_returns_none(self):
        self.assertIsNone(Tape().arm(0))
        self.assertIsNone(Tape().arm(5))

    def test_arm_zero_crashes_at_the_next_append(self):
        made = written(1, 2)
        made.arm(0)
        with self.assertRaises(TapeCrashed):
            made.append("x")
        self.is_down(made, 2)
        made.crash(5)
        self.holds(made, [0, 1, 2], 0)

    def test_arm_zero_crashes_at_the_next_sync(self):
        made = written(1, 2)
        made.arm(0)
        with self.assertRaises(TapeCrashed):
            made.sync()
        self.is_down(made, 2)
        made.crash(1)
        self.holds(made, [0, 1], 0)

    def test_so_many_operations_pass(self):
        for count in range(5):
            for kinds in itertools.product(("append", "sync"), repeat=count + 1):
                with self.subTest(kinds=kinds):
                    made, model = written(1, 1), [0, 1]
                    made.arm(count)
                    for kind in kinds[:-1]:
                        if kind == "append":
                            made.append(kind)
                            model.append(kind)
                        else:
                            made.sync()
                    pending = made.pending()
                    self.assertEqual(made.records(), model)
                    with self.assertRaises(TapeCrashed):
                        if kinds[-1] == "append":
                            made.append("x")
                        else:
                            made.sync()
                    self.is_down(made, pending)
                    made.crash(10)
                    self.holds(made, model, 0)

    def test_records_and_pending_are_no_operations(self):
        made = written(1, 1)
        made.arm(1)
        for _ in range(5):
            self.holds(made, [0, 1], 1)
        made.append(2)
        for _ in range(5):
            self.holds(made, [0, 1, 2], 2)
        with self.assertRaises(TapeCrashed):
            made.sync()
        self.is_down(made, 2)

    def test_a_later_call_replaces_the_earlier_one(self):
        made = Tape()
        made.arm(0)
        made.arm(2)
        made.append("a")
        made.append("b")
        made.arm(1)
        made.append("c")
        with self.assertRaises(TapeCrashed):
            made.append("d")
        self.is_down(made, 3)
        made = Tape()
        made.arm(5)
        made.arm(0)
        with self.assertRaises(TapeCrashed):
            made.sync()

    def test_on_a_tape_that_has_crashed(self):
        for count in (0, 1, 5):
            made = written(1, 2)
            made.arm(0)
            with self.assertRaises(TapeCrashed):
                made.append("x")
            self.assertIsNone(made.arm(count))
            self.is_down(made, 2)
            made.crash(1)
            for number in range(10):
                made.append(number)
                made.sync()
            self.holds(made, [0, 1] + list(range(10)), 0)

    def test_crash_disarms(self):
        for count in (0, 1, 2):
            made = written(0, 2)
            made.arm(count)
            made.crash(2)
            for _ in range(5):
                made.append("a")
                made.sync()
            self.holds(made, [0, 1] + ["a"] * 5, 0)

    def test_all_again_after_crash(self):
        made = Tape()
        for turn in range(3):
            made.arm(1)
            made.append((turn, 0))
            with self.assertRaises(TapeCrashed):
                made.append((turn, 1))
            self.is_down(made, 1)
            made.crash(1)
            self.assertEqual((len(made.records()), made.pending()), (turn + 1, 0))
            made.records()
        self.holds(made, [(0, 0), (1, 0), (2, 0)], 0)


class Compared(Checks):
    def test_all_short_runs(self):
        steps = [("append", "r"), ("sync",), ("arm", 0), ("arm", 1), ("crash", 0), ("crash", 1)]
        for run in itertools.product(steps, repeat=5):
            made, model = Tape(), Model()
            for step in run:
                self.assertEqual(self.outcome(made, step), self.outcome(model, step), run)
                self.assertEqual(self.outcome(made, ("records",)), self.outcome(model, ("records",)), run)
                self.assertEqual(made.pending(), model.pending(), run)

    def outcome(self, made, step):
        try:
            return getattr(made, step[0])(*step[1:])
        except TapeCrashed:
            return "crashed"


class Home(unittest.TestCase):
    def test_each_method_is_defined_in_the_class(self):
        self.assertEqual(Tape.__module__, "firmground.tape")
        self.assertIs(tape.Tape, Tape)
        for name in METHODS:
            with self.subTest(name=name):
                self.assertIn(name, vars(Tape))

    def test_arguments_by_name(self):
        made = Tape()
        made.append(record="a")
        made.arm(count=3)
        made.crash(keep=1)
        self.assertEqual(made.records(), ["a"])
