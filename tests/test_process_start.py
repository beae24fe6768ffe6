"""Points 600 to 605: how a process starts, and what is firm and committed then."""

import unittest

from firmground import process as module
from firmground.clocks import zero
from firmground.ends import Ends
from firmground.errors import BadProcess, TapeCrashed
from firmground.machine import START
from firmground.past import Past
from firmground.process import Process
from firmground.tape import Tape
from tests.making import DESK, SHOW, both, clock, desk_input, desk_pass, firm_told, fresh, tape_with
from tests.values import not_counts, other_kinds

METHODS = ("tick", "receive", "flush", "version", "inputs", "cells", "clock", "committed", "outputs",
           "ends")
NO_PROCESS = [True, False, "0", None, -1, 3, 4, 10 ** 30, 0.0, 1.0]
NO_COUNT = [True, "3", None, -1, 0, 11, 1.0, 3.0, 10 ** 30]


class NewTape(unittest.TestCase):
    def test_one_durable_record(self):
        for count in (1, 2, 10):
            for me in range(count):
                with self.subTest(count=count, me=me):
                    process, tape = fresh(me, count)
                    self.assertEqual((tape.records(), tape.pending()), ([("start",)], 0))
                    self.assertEqual((process.version(), process.committed()), (0, 0))
                    self.assertEqual((process.inputs(), process.outputs()), ([], []))
                    self.assertEqual((process.cells(), process.clock()), (START, zero(count)))
                    self.assertEqual([process.ends(each) for each in range(count)], [[]] * count)

    def test_two_operations(self):
        # At 0 the record is not there, at 1 it is there and pending, at 2 nothing crashes.
        for armed, records in ((0, []), (1, [("start",)])):
            tape = Tape()
            tape.arm(armed)
            with self.assertRaises(TapeCrashed):
                Process(0, 2, tape)
            self.assertEqual(tape.pending(), len(records))
            tape.crash(5)
            self.assertEqual(tape.records(), records)
        tape = Tape()
        tape.arm(2)
        process = Process(0, 2, tape)
        self.assertEqual((tape.records(), tape.pending()), ([("start",)], 0))
        with self.assertRaises(TapeCrashed):
            process.flush()

    def test_a_first_start_that_was_lost_is_made_again(self):
        tape = Tape()
        tape.arm(1)
        with self.assertRaises(TapeCrashed):
            Process(0, 2, tape)
        tape.crash(0)
        process = Process(0, 2, tape)
        self.assertEqual((tape.records(), tape.pending(), process.version()), ([("start",)], 0, 0))

    def test_a_first_start_that_was_kept_is_no_first_start_any_more(self):
        tape = Tape()
        tape.arm(1)
        with self.assertRaises(TapeCrashed):
            Process(0, 2, tape)
        tape.crash(1)
        process = Process(0, 2, tape)
        self.assertEqual(tape.records(), [("start",), ("end", 0, 0)])
        self.assertEqual((tape.pending(), process.version(), process.ends(0)), (0, 1, [0]))


class WrittenTape(unittest.TestCase):
    def start(self, me, count, *records, pending=0):
        tape = tape_with(*records, pending=pending)
        process = Process(me, count, tape)
        self.assertEqual(tape.records()[:-1], list(records))
        self.assertEqual(tape.pending(), 0)
        return process, tape.records()[-1]

    def test_the_first_record_alone(self):
        process, end = self.start(1, 3, ("start",))
        self.assertEqual(end, ("end", 0, 0))
        self.assertEqual((process.version(), process.ends(1), process.inputs()), (1, [0], []))
        self.assertEqual((process.ends(0), process.ends(2)), ([], []))

    def test_inputs(self):
        rows = [(DESK, 1, both(("set", 0, 4), SHOW), zero(2)),
                (1, 1, ("add", 0, 3), clock(2, p1=(0, 2))),
                (DESK, 2, both(SHOW, ("send", 0, SHOW)), zero(2))]
        for length in range(4):
            records = [("start",)] + [("input",) + row for row in rows[:length]]
            for pending in range(length + 1):
                process, end = self.start(0, 2, *records, pending=pending)
                self.assertEqual(end, ("end", 0, length))
                self.assertEqual(process.inputs(), [row + (0,) for row in rows[:length]])
                self.assertEqual((process.version(), process.ends(0)), (1, [length]))
                self.assertEqual(process.committed(), 0)
        self.assertEqual((process.cells(), process.outputs()), ((7, 0, 0, 0), ["4", "7"]))
        self.assertEqual(process.clock(), ((0, 3), (0, 2)))

    def test_records_of_every_kind(self):
        process, end = self.start(
            0, 3,
            ("start",),
            desk_input(3, 1, ("set", 0, 1)),
            ("input", 1, 1, SHOW, clock(3, p1=(0, 5))),
            desk_input(3, 2, ("add", 0, 1)),
            ("other", 1, 0, 4),
            ("end", 0, 1),
            ("other", 2, 0, 9),
            desk_input(3, 2, both(("add", 0, 7), SHOW)),
            ("end", 1, 2),
            ("input", 2, 1, SHOW, clock(3, p2=(1, 3))),
            ("other", 1, 1, 2))
        self.assertEqual(end, ("end", 2, 3))
        self.assertEqual((process.version(), process.ends(0)), (3, [1, 2, 3]))
        self.assertEqual((process.ends(1), process.ends(2)), ([4, 2], [9]))
        self.assertEqual(process.inputs(), [
            (DESK, 1, ("set", 0, 1), zero(3), 0),
            (DESK, 2, both(("add", 0, 7), SHOW), zero(3), 1),
            (2, 1, SHOW, clock(3, p2=(1, 3)), 2)])
        self.assertEqual(process.clock(), ((2, 3), (0, 0), (1, 3)))
        self.assertEqual((process.cells(), process.outputs()), ((8, 0, 0, 0), ["8", "8"]))

    def test_the_last_record_is_an_own_end(self):
        process, end = self.start(0, 2, ("start",), desk_input(2, 1, SHOW), desk_input(2, 2, SHOW),
                                  ("end", 0, 1))
        self.assertEqual(end, ("end", 1, 1))
        self.assertEqual((process.version(), process.ends(0)), (2, [1, 1]))
        self.assertEqual(process.inputs(), [(DESK, 1, SHOW, zero(2), 0)])

    def test_the_last_record_is_an_end_of_another_process(self):
        # The states that it kills were not undone before the crash, so they are at the start.
        records = [("start",), desk_input(2, 1, SHOW),
                   ("input", 1, 1, SHOW, clock(2, p1=(0, 3))),
                   ("input", 1, 2, SHOW, clock(2, p1=(0, 6))), desk_input(2, 2, SHOW)]
        for stays, left in ((2, 1), (3, 2), (5, 2), (6, 4), (7, 4)):
            with self.subTest(stays=stays):
                process, end = self.start(0, 2, *records, ("other", 1, 0, stays))
                self.assertEqual(end, ("end", 0, left))
                self.assertEqual(len(process.inputs()), left)
                self.assertEqual((process.ends(0), process.ends(1)), ([left], [stays]))

    def test_the_end_is_what_alive_says(self):
        for rows in ([], [2], [4, 3], [9, 9, 1]):
            records = [("start",)]
            past, ends = Past(0, 2), Ends(2)
            for number in range(1, 7):
                records.append(("input", 1, number, SHOW, clock(2, p1=(0, number))))
                past.take(1, number, SHOW, clock(2, p1=(0, number)), 0)
            for version, stays in enumerate(rows):
                records.append(("other", 1, version, stays))
                ends.add(1, version, stays)
            process, end = self.start(0, 2, *records)
            self.assertEqual(end, ("end", 0, past.alive(ends)))
            self.assertEqual(len(process.inputs()), past.alive(ends))

    def test_pending_records_count_and_become_durable(self):
        for pending in range(4):
            process, end = self.start(0, 2, ("start",), desk_input(2, 1, SHOW), ("other", 1, 0, 2),
                                      desk_input(2, 2, SHOW), pending=pending)
            self.assertEqual((end, len(process.inputs()), process.ends(1)), (("end", 0, 2), 2, [2]))

    def test_one_start_after_the_other(self):
        tape = tape_with(("start",), desk_input(2, 1, SHOW))
        for version in range(30):
            process = Process(0, 2, tape)
            self.assertEqual((process.version(), process.ends(0)), (version + 1, [1] * (version + 1)))
            self.assertEqual(process.inputs(), [(DESK, 1, SHOW, zero(2), 0)])
            process.receive(desk_pass(2, 2, SHOW))
            self.assertEqual(process.inputs()[1:], [(DESK, 2, SHOW, zero(2), version + 1)])
            tape.crash(0)
            self.assertEqual(tape.records()[-1], ("end", version, 1))

    def test_two_operations(self):
        for armed in (0, 1):
            tape = tape_with(("start",), desk_input(2, 1, SHOW))
            tape.arm(armed)
            with self.assertRaises(TapeCrashed):
                Process(0, 2, tape)
            self.assertEqual(tape.pending(), armed)
            tape.crash(1)
            self.assertEqual(tape.records()[2:], [("end", 0, 1)][:armed])
            process = Process(0, 2, tape)
            self.assertEqual((process.version(), process.ends(0)), (1 + armed, [1] * (1 + armed)))
        tape = tape_with(("start",), desk_input(2, 1, SHOW))
        tape.arm(2)
        self.assertEqual(Process(0, 2, tape).version(), 1)
        with self.assertRaises(TapeCrashed):
            tape.sync()

    def test_a_tape_that_has_crashed(self):
        tape = tape_with(("start",))
        tape.arm(0)
        with self.assertRaises(TapeCrashed):
            tape.sync()
        for _ in range(2):
            with self.assertRaises(TapeCrashed):
                Process(0, 2, tape)
        tape.crash(0)
        self.assertEqual(tape.records(), [("start",)])


class Refused(unittest.TestCase):
    def refuse(self, me, count, tape):
        try:
            Process(me, count, tape)
        except BadProcess:
            return
        self.fail("a process was created")

    def test_no_process(self):
        for me in NO_PROCESS + other_kinds():
            tape = Tape()
            self.refuse(me, 3, tape)
            self.assertEqual(tape.records(), [])

    def test_no_count(self):
        for count in NO_COUNT + not_counts():
            tape = Tape()
            self.refuse(0, count, tape)
            self.assertEqual(tape.records(), [])

    def test_just_inside_and_just_outside(self):
        for count in range(1, 11):
            for me in (0, count - 1):
                self.assertEqual(fresh(me, count)[0].version(), 0)
            for me in (-1, count):
                self.refuse(me, count, Tape())
        for count in (0, 11):
            for me in (-1, 0, 10, 11):
                self.refuse(me, count, Tape())

    def test_before_the_tape_is_looked_at(self):
        for me, count in [(me, 3) for me in NO_PROCESS] + [(0, count) for count in NO_COUNT]:
            for armed in (0, 1, 2):
                tape = tape_with(("start",), desk_input(2, 1, SHOW), pending=1)
                tape.arm(armed)
                self.refuse(me, count, tape)
                self.assertEqual((len(tape.records()), tape.pending()), (2, 1))
                for _ in range(armed):
                    tape.sync()
                with self.assertRaises(TapeCrashed):
                    tape.sync()
                # Now it has crashed.
                self.refuse(me, count, tape)
                with self.assertRaises(TapeCrashed):
                    tape.records()
                self.refuse(me, count, None)


class Firm(unittest.TestCase):
    def test_at_the_creation(self):
        process, _ = fresh(0, 3)
        self.assertEqual(firm_told(process, 0, 3), (0, 0))
        tape = tape_with(("start",), desk_input(3, 1, SHOW), desk_input(3, 2, SHOW), pending=1)
        self.assertEqual(firm_told(Process(2, 3, tape), 2, 3), (1, 2))
        tape = tape_with(("start",), desk_input(3, 1, SHOW), ("end", 0, 1), ("end", 1, 1),
                         desk_input(3, 2, SHOW))
        self.assertEqual(firm_told(Process(0, 3, tape), 0, 3), (3, 2))

    def test_not_after_an_append_alone(self):
        process, tape = fresh(0, 3)
        process.receive(desk_pass(3, 1, SHOW))
        process.receive(desk_pass(3, 2, SHOW))
        self.assertEqual(tape.pending(), 2)
        self.assertEqual(firm_told(process, 0, 3), (0, 0))
        self.assertEqual(process.committed(), 0)

    def test_after_flush(self):
        process, _ = fresh(0, 3)
        for number in (1, 2, 3):
            process.receive(desk_pass(3, number, SHOW))
            process.flush()
            process.receive(desk_pass(3, number + 1, SHOW))
            self.assertEqual(firm_told(process, 0, 3), (0, number))
            self.assertEqual(process.committed(), number)

    def test_after_the_sync_of_a_tick(self):
        process, _ = fresh(0, 3)
        process.receive(desk_pass(3, 1, SHOW))
        self.assertEqual([firm_told(process, 0, 3) for _ in range(5)],
                         [(0, 0), (0, 0), (0, 0), (0, 1), (0, 1)])

    def test_after_an_end_of_another_process_that_undoes_nothing(self):
        process, _ = fresh(0, 3)
        process.receive(desk_pass(3, 1, SHOW))
        process.receive(desk_pass(3, 2, SHOW))
        process.receive(("end", 1, 0, 5))
        self.assertEqual(firm_told(process, 0, 3), (0, 2))

    def test_not_after_an_end_that_is_not_the_next_one(self):
        process, tape = fresh(0, 3)
        process.receive(("end", 1, 0, 5))
        process.receive(desk_pass(3, 1, SHOW))
        for version in (0, 2, 9):
            process.receive(("end", 1, version, 5))
        self.assertEqual((tape.pending(), firm_told(process, 0, 3)), (1, (0, 0)))

    def test_after_an_end_that_ends_the_version(self):
        process, _ = fresh(0, 3)
        process.receive(desk_pass(3, 1, SHOW))
        process.receive(("pass", 1, 1, SHOW, clock(3, p1=(0, 7))))
        process.receive(desk_pass(3, 2, SHOW))
        process.receive(("end", 1, 0, 5))
        process.receive(desk_pass(3, 2, SHOW))
        self.assertEqual(firm_told(process, 0, 3), (1, 1))


class Committed(unittest.TestCase):
    def filled(self):
        """Four inputs: on none, on the process 1, on both others, on none further."""
        process, tape = fresh(0, 3)
        process.receive(desk_pass(3, 1, SHOW))
        process.receive(("pass", 1, 1, SHOW, clock(3, p1=(0, 4))))
        process.receive(("pass", 2, 1, SHOW, clock(3, p1=(0, 2), p2=(0, 6))))
        process.receive(desk_pass(3, 2, SHOW))
        return process, tape

    def test_only_as_far_as_all_pairs_are_firm(self):
        process, _ = self.filled()
        process.flush()
        process.tick()
        self.assertEqual(process.committed(), 1)
        for letter, expected in ((("firm", 2, 0, 6), 1), (("firm", 1, 0, 3), 1),
                                 (("firm", 1, 0, 4), 4)):
            process.receive(letter)
            self.assertEqual(process.committed(), expected)

    def test_the_own_pair_must_be_firm_too(self):
        process, _ = self.filled()
        process.receive(("firm", 1, 0, 4))
        process.receive(("firm", 2, 0, 6))
        self.assertEqual(process.committed(), 0)
        process.tick()
        self.assertEqual(process.committed(), 0)
        process.flush()
        process.receive(("pass", 1, 2, SHOW, clock(3, p1=(0, 4))))
        process.tick()
        self.assertEqual(process.committed(), 4)

    def test_a_later_version_that_is_told(self):
        process, _ = self.filled()
        process.flush()
        process.receive(("firm", 2, 0, 6))
        process.receive(("firm", 1, 1, 0))
        self.assertEqual(process.committed(), 1)
        # The pair is firm as soon as the end between the two is known, and leaves it alive.
        process.receive(("end", 1, 0, 4))
        self.assertEqual(process.committed(), 1)
        process.tick()
        self.assertEqual(process.committed(), 4)

    def test_it_is_raised_in_a_tick_and_at_a_firm_letter_only(self):
        process, _ = fresh(0, 3)
        process.receive(desk_pass(3, 1, SHOW))
        process.flush()
        self.assertEqual(process.committed(), 0)
        for letter in (desk_pass(3, 1, SHOW), desk_pass(3, 2, SHOW), ("got", 1, 1), ("heard", 1, 1),
                       ("seen", DESK, 1), ("end", 1, 0, 3), ("end", 1, 0, 3), ("show", 1, 1, "a")):
            process.receive(letter)
            self.assertEqual(process.committed(), 0)
        # Both inputs are durable: the end was synced.
        process.receive(("firm", 1, 0, 0))
        self.assertEqual(process.committed(), 2)
        process.receive(desk_pass(3, 3, SHOW))
        process.flush()
        self.assertEqual(process.committed(), 2)
        process.tick()
        self.assertEqual(process.committed(), 3)

    def test_not_when_a_version_ends(self):
        process, _ = self.filled()
        process.receive(("end", 1, 0, 3))
        self.assertEqual((process.committed(), len(process.inputs())), (0, 1))
        process.tick()
        self.assertEqual(process.committed(), 1)

    def test_zero_at_each_creation(self):
        process, tape = self.filled()
        process.flush()
        process.tick()
        self.assertEqual(process.committed(), 1)
        tape.crash(0)
        process = Process(0, 3, tape)
        self.assertEqual((process.committed(), len(process.inputs())), (0, 4))
        process.tick()
        self.assertEqual(process.committed(), 1)

    def test_it_never_falls(self):
        process, _ = fresh(0, 2)
        for number in range(1, 10):
            process.receive(desk_pass(2, number, SHOW))
            process.tick()
        before = process.committed()
        self.assertEqual(before, 8)
        for letter in (("firm", 1, 0, 0), ("end", 1, 0, 0), ("got", 1, 1)):
            process.receive(letter)
            self.assertGreaterEqual(process.committed(), before)


class Returned(unittest.TestCase):
    def test_lists_may_be_changed(self):
        process, _ = fresh(0, 3)
        process.receive(desk_pass(3, 1, both(SHOW, ("send", 1, SHOW))))
        process.receive(("end", 1, 0, 5))
        process.flush()
        same = process.inputs(), process.outputs(), process.ends(1), process.ends(0)
        for found in (process.inputs(), process.outputs(), process.ends(1), process.ends(0),
                      process.tick(), process.receive(("seen", DESK, 0)),
                      process.receive(desk_pass(3, 1, SHOW)), process.receive(("end", 1, 0, 5)),
                      process.receive(None)):
            self.assertIs(type(found), list)
            found.append("x")
            found[0] = "y"
            found.clear()
        self.assertEqual((process.inputs(), process.outputs(), process.ends(1), process.ends(0)), same)
        self.assertEqual(process.receive(None), [])
        self.assertEqual(len(process.tick()), 4)

    def test_an_argument_is_not_changed(self):
        letter = desk_pass(2, 1, both(SHOW, ("send", 1, SHOW)))
        copied = desk_pass(2, 1, both(SHOW, ("send", 1, SHOW)))
        process, _ = fresh(0, 2)
        process.receive(letter)
        self.assertEqual(letter, copied)

    def test_processes_are_apart(self):
        one, _ = fresh(0, 2)
        other, _ = fresh(0, 2)
        one.receive(desk_pass(2, 1, SHOW))
        one.receive(("end", 1, 0, 5))
        self.assertEqual((other.inputs(), other.ends(1)), ([], []))


class Home(unittest.TestCase):
    def test_constants(self):
        self.assertEqual((module.FLUSH, module.WINDOW), (4, 16))

    def test_each_method_is_defined_in_the_class(self):
        self.assertEqual(Process.__module__, "firmground.process")
        for name in METHODS:
            with self.subTest(name=name):
                self.assertIn(name, vars(Process))

    def test_arguments_by_name(self):
        process = Process(me=0, count=2, tape=Tape())
        self.assertEqual(process.receive(letter=("seen", DESK, 0)), [])
        self.assertEqual(process.ends(process=1), [])
        self.assertIsNone(process.flush())

    def test_a_process_somewhat_beyond_the_group_has_no_ends(self):
        self.assertEqual(fresh(0, 2)[0].ends(2), [])
