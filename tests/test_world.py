"""Points 707 to 713: firmground.world, act by act."""

import unittest

from firmground.clocks import zero
from firmground.desk import Desk
from firmground.errors import BadSchedule
from firmground.history import History
from firmground.process import Process
from firmground.tape import Tape
from firmground.world import World
from tests.making import DESK, SHOW, both, clock, desk_input, many, records, world_looks
from tests.values import Touchy, deep_tuple, not_counts, other_kinds

MOST = 10 ** 12
METHODS = ("act", "time", "packets", "is_up", "process", "tape", "desk", "history")
NO_PROCESS = [True, False, "0", None, -1, 2, 3, 11, 10 ** 30, 0.0, 1.0]


def run(count, *acts):
    world = World(count)
    for act in acts:
        world.act(act)
    return world


def ups(world, count):
    return [world.is_up(each) for each in range(count)]


def letters_of(packets):
    return [(sender, receiver, letter[0], letter[2]) for sender, receiver, letter in packets]


class Checks(unittest.TestCase):
    def refuse(self, reason, world, act, count=2):
        before = world_looks(world, count)
        objects = [world.process(each) for each in range(count) if world.is_up(each)]
        try:
            world.act(act)
        except BadSchedule as error:
            self.assertEqual((error.line, error.reason), (0, reason))
        else:
            self.fail(f"no {reason}")
        self.assertEqual(world_looks(world, count), before)
        again = [world.process(each) for each in range(count) if world.is_up(each)]
        self.assertTrue(all(one is other for one, other in zip(objects, again)))


class NewWorld(Checks):
    def test_all_are_up(self):
        for count in (1, 2, 10):
            world = World(count)
            self.assertEqual((world.time(), world.packets(), world.history().events()), (0, [], []))
            self.assertEqual(ups(world, count), [True] * count)
            self.assertIsInstance(world.desk(), Desk)
            self.assertEqual(world.desk().tick(), [])
            for each in range(count):
                self.assertIsInstance(world.process(each), Process)
                self.assertIs(world.process(each), world.process(each))
                self.assertIsInstance(world.tape(each), Tape)
                self.assertIs(world.tape(each), world.tape(each))
                self.assertEqual(world.tape(each).records(), [("start",)])
                self.assertEqual(world.tape(each).pending(), 0)
                self.assertEqual(world.process(each).version(), 0)
            self.assertEqual(len({id(world.tape(each)) for each in range(count)}), count)

    def test_no_count(self):
        for count in not_counts() + [True, "2", None, 2.0]:
            try:
                World(count)
            except BadSchedule as error:
                self.assertEqual((error.line, error.reason), (0, "processes"))
            else:
                self.fail("a world was created")

    def test_just_inside_and_just_outside(self):
        for count in range(1, 11):
            self.assertEqual(ups(World(count), count), [True] * count)
        for count in (0, 11):
            with self.assertRaises(BadSchedule):
                World(count)

    def test_values_that_name_no_process(self):
        world = run(2, ("crash", 1))
        for process in NO_PROCESS + other_kinds():
            for method in (world.is_up, world.process, world.tape):
                try:
                    method(process)
                except BadSchedule as error:
                    self.assertEqual((error.line, error.reason), (0, "process"))
                else:
                    self.fail("a process was found")

    def test_a_process_that_is_down(self):
        world = run(2, ("crash", 1))
        self.assertEqual((world.is_up(0), world.is_up(1)), (True, False))
        self.assertEqual(world.tape(1).records(), [("start",)])
        with self.assertRaises(BadSchedule) as caught:
            world.process(1)
        self.assertEqual((caught.exception.line, caught.exception.reason), (0, "state"))

    def test_lists_may_be_changed(self):
        world = run(2, ("submit", 0, SHOW), ("deliver", 0), ("tick", 4))
        before = world_looks(world, 2)
        world.packets().clear()
        world.packets().append("x")
        world.history().events().clear()
        world.history().add(("crash", 4, 0))
        self.assertEqual(world_looks(world, 2), before)
        self.assertIsInstance(world.history(), History)
        self.assertIsNot(world.history(), world.history())

    def test_an_act_returns_nothing(self):
        world = World(1)
        for act in (("submit", 0, SHOW), ("double", 0), ("move", 0), ("lose", 0), ("deliver", 0), ("tick", 1),
                    ("round",), ("calm", 1), ("flush", 0), ("arm", 0, 5), ("crash", 0), ("start", 0, 0)):
            self.assertIsNone(world.act(act))


class Ticks(Checks):
    def test_the_time(self):
        world = World(2)
        for act, time in ((("tick", 1), 1), (("tick", 5), 6), (("calm", 1), 7), (("calm", 4), 11),
                          (("round",), 11), (("tick", 1000), 1011), (("flush", 0), 1011)):
            world.act(act)
            self.assertEqual(world.time(), time)

    def test_the_processes_in_order_and_then_the_desk(self):
        world = run(3, ("submit", 1, SHOW), ("lose", 0), ("tick", 1))
        firm = [(sender, receiver, "firm", 0) for sender in range(3) for receiver in range(3)
                if sender != receiver]
        whole = firm + [(DESK, 1, "pass", 1)]
        self.assertEqual(letters_of(world.packets()), whole)
        world.act(("tick", 2))
        self.assertEqual(letters_of(world.packets()), whole * 3)

    def test_those_that_are_up(self):
        world = run(3, ("crash", 1), ("tick", 1))
        self.assertEqual([packet[:2] for packet in world.packets()], [(0, 1), (0, 2), (2, 0), (2, 1)])
        world = run(2, ("crash", 0), ("crash", 1), ("submit", 0, SHOW), ("tick", 2))
        self.assertEqual((len(world.packets()), world.time()), (3, 2))

    def test_each_tick_is_told(self):
        world = run(2, ("submit", 0, SHOW), ("deliver", 0), ("tick", 3))
        self.assertEqual(world.tape(0).pending(), 1)
        world.act(("tick", 1))
        self.assertEqual((world.tape(0).pending(), world.process(0).committed()), (0, 1))

    def test_a_crash_within_a_tick(self):
        # Both tapes are synced at the fourth tick of five; that of the process 0 crashes.
        world = run(2, ("submit", 0, SHOW), ("deliver", 0), ("tick", 3), ("arm", 0, 0))
        packets = len(world.packets())
        world.act(("tick", 2))
        self.assertEqual(ups(world, 2), [False, True])
        self.assertEqual([packet[:2] for packet in world.packets()[packets:]],
                         [(1, 0), (DESK, 0), (1, 0), (DESK, 0)])
        self.assertEqual(world.history().events()[-1], ("crash", 4, 0))
        self.assertEqual(records(world.tape(0)), "crashed")
        self.assertEqual(world.tape(0).pending(), 1)

    def test_the_second_process_crashes(self):
        world = run(3, ("tick", 3), ("arm", 1, 0), ("tick", 1))
        self.assertEqual(ups(world, 3), [True, False, True])
        self.assertEqual([packet[:2] for packet in world.packets()[-4:]], [(0, 1), (0, 2), (2, 0), (2, 1)])


class Rounds(Checks):
    def test_as_many_as_are_in_flight(self):
        world = run(2, ("submit", 0, ("send", 1, SHOW)), ("submit", 0, SHOW), ("round",))
        self.assertEqual(letters_of(world.packets()), [(0, 1, "pass", 1)])
        self.assertEqual(len(world.process(1).inputs()), 0)
        world.act(("round",))
        self.assertEqual((world.packets(), len(world.process(1).inputs())), ([], 1))
        world.act(("round",))
        self.assertEqual((world.packets(), world.time()), ([], 0))

    def test_from_the_front(self):
        payloads = [("set", 0, 5), ("add", 0, 1), ("copy", 1, 0)]
        world = run(1, *[("submit", 0, payload) for payload in payloads], ("round",))
        self.assertEqual([row[2] for row in world.process(0).inputs()], payloads)
        # The first packet is the second input: it is not taken, for it comes too early.
        world = run(1, *[("submit", 0, payload) for payload in payloads], ("move", 0), ("round",))
        self.assertEqual([row[2] for row in world.process(0).inputs()], payloads[:1])

    def test_to_a_process_that_goes_down_within_it(self):
        world = run(1, ("submit", 0, SHOW), ("submit", 0, SHOW), ("submit", 0, SHOW), ("arm", 0, 1),
                    ("round",))
        self.assertEqual((world.packets(), ups(world, 1)), ([], [False]))
        self.assertEqual([event[0] for event in world.history().events()],
                         ["submit"] * 3 + ["take", "crash"])

    def test_calm_is_a_tick_and_a_round_each_time(self):
        acts = [("submit", 0, both(SHOW, ("send", 1, ("send", 0, SHOW)))), ("submit", 1, SHOW)]
        for times in (1, 2, 5, 9):
            one = run(2, *acts, ("calm", times))
            other = run(2, *acts, *[("tick", 1), ("round",)] * times)
            self.assertEqual(world_looks(one, 2), world_looks(other, 2))
        # What is sent within the round waits for the next one.
        world = run(2, ("submit", 0, ("send", 1, SHOW)), ("calm", 1))
        self.assertIn((0, 1, "pass", 1), letters_of(world.packets()))
        self.assertEqual(len(world.process(1).inputs()), 0)
        world.act(("calm", 1))
        self.assertEqual(len(world.process(1).inputs()), 1)


class Packets(Checks):
    PAYLOADS = [("set", 0, value) for value in range(4)]

    def filled(self):
        return run(2, *[("submit", 1, payload) for payload in self.PAYLOADS])

    def numbers(self, world):
        return [letter[2] for _, _, letter in world.packets()]

    def test_each_position(self):
        for position in range(4):
            rest = [number for number in (1, 2, 3, 4) if number != position + 1]
            for kind, left, inputs in (("deliver", rest, int(position == 0)), ("lose", rest, 0),
                                       ("double", [1, 2, 3, 4, position + 1], 0),
                                       ("move", rest + [position + 1], 0)):
                world = self.filled()
                world.act((kind, position))
                self.assertEqual(self.numbers(world), left)
                self.assertEqual(len(world.process(1).inputs()), inputs)
                self.assertEqual(world.time(), 0)

    def test_packets_have_a_sender_a_receiver_and_a_letter(self):
        world = run(2, ("submit", 0, ("send", 1, SHOW)))
        self.assertEqual(world.packets(), [(DESK, 0, ("pass", DESK, 1, ("send", 1, SHOW), zero(2)))])
        world.act(("deliver", 0))
        self.assertEqual(world.packets(), [(0, 1, ("pass", 0, 1, SHOW, clock(2, p0=(0, 1))))])

    def test_what_a_receiver_sends_is_appended(self):
        world = run(3, ("submit", 1, both(("send", 2, SHOW), ("send", 1, SHOW), ("send", 0, SHOW))),
                    ("submit", 0, SHOW), ("deliver", 0))
        self.assertEqual(letters_of(world.packets()), [(DESK, 0, "pass", 1), (1, 2, "pass", 1),
                                                       (1, 1, "pass", 1), (1, 0, "pass", 1)])

    def test_delivering_to_the_desk(self):
        world = run(1, ("submit", 0, SHOW), ("deliver", 0), ("tick", 4))
        packets = letters_of(world.packets())
        self.assertEqual(packets[2:], [(DESK, 0, "pass", 1), (0, DESK, "show", 1), (DESK, 0, "pass", 1)])
        world.act(("deliver", 3))
        self.assertEqual((world.desk().shown(0), letters_of(world.packets())[-1]),
                         (["0"], (DESK, 0, "seen", 1)))

    def test_delivering_to_a_process_that_is_down(self):
        world = run(2, ("submit", 0, SHOW), ("submit", 1, SHOW), ("crash", 0))
        before = records(world.tape(0))
        world.act(("deliver", 0))
        self.assertEqual(letters_of(world.packets()), [(DESK, 1, "pass", 1)])
        self.assertEqual((records(world.tape(0)), world.is_up(0)), (before, False))
        self.assertEqual([event[0] for event in world.history().events()], ["submit", "submit", "crash"])
        world.act(("start", 0, 0))
        self.assertEqual(world.process(0).inputs(), [])

    def test_a_crash_within_receive(self):
        world = run(2, ("submit", 0, ("send", 1, SHOW)), ("arm", 0, 0), ("deliver", 0))
        self.assertEqual((world.packets(), ups(world, 2)), ([], [False, True]))
        self.assertEqual(world.history().events()[1:], [("crash", 0, 0)])

    def test_no_letter_of_a_call_that_crashed_is_sent(self):
        # The end is synced, and the crash comes when the own version ends.
        world = run(2, ("submit", 0, ("send", 1, SHOW)), ("round",), ("round",), ("crash", 0),
                    ("start", 0, 0), ("tick", 1))
        self.assertEqual(len(world.process(1).inputs()), 1)
        positions = [at for at, (_, to, letter) in enumerate(world.packets())
                     if to == 1 and letter[0] == "end"]
        world.act(("arm", 1, 2))
        before = world.packets()
        world.act(("deliver", positions[0]))
        self.assertEqual(world.packets(), before[:positions[0]] + before[positions[0] + 1:])
        self.assertEqual(ups(world, 2), [True, False])
        self.assertEqual(world.history().events()[-1], ("crash", 1, 1))


class SubmitAndFlush(Checks):
    def test_submit(self):
        world = World(2)
        for process, number, payload in ((1, 1, SHOW), (0, 1, ("set", 0, 1)), (1, 2, ("set", 0, 2))):
            world.act(("submit", process, payload))
            self.assertEqual(world.packets()[-1],
                             (DESK, process, ("pass", DESK, number, payload, zero(2))))
            self.assertEqual(world.history().events()[-1], ("submit", 0, process, number, payload))
            self.assertEqual(world.desk().submitted(process)[number - 1], payload)
        self.assertEqual(len(world.packets()), 3)

    def test_submit_for_a_process_that_is_down(self):
        world = run(2, ("crash", 1), ("submit", 1, SHOW))
        self.assertEqual((len(world.packets()), world.desk().submitted(1)), (1, [SHOW]))

    def test_flush(self):
        world = run(2, ("submit", 0, SHOW), ("deliver", 0))
        self.assertEqual(world.tape(0).pending(), 1)
        world.act(("flush", 1))
        self.assertEqual(world.tape(0).pending(), 1)
        world.act(("flush", 0))
        self.assertEqual((world.tape(0).pending(), world.packets(), world.time()), (0, [], 0))
        self.assertEqual(world.process(0).committed(), 0)

    def test_a_crash_within_flush(self):
        world = run(2, ("submit", 0, SHOW), ("deliver", 0), ("arm", 0, 0), ("flush", 0))
        self.assertEqual((ups(world, 2), world.packets()), ([False, True], []))
        self.assertEqual(world.history().events()[-1], ("crash", 0, 0))
        self.assertEqual((records(world.tape(0)), world.tape(0).pending()), ("crashed", 1))


class CrashAndStart(Checks):
    def taken(self, *more):
        """A process with three inputs, the first one of which is durable."""
        return run(2, ("submit", 0, SHOW), ("round",), ("flush", 0), ("submit", 0, ("show", 1)),
                   ("submit", 0, ("show", 2)), ("round",), *more)

    def test_crash(self):
        world = self.taken()
        before = records(world.tape(0))
        world.act(("crash", 0))
        self.assertEqual(ups(world, 2), [False, True])
        self.assertEqual((records(world.tape(0)), world.tape(0).pending()), (before, 2))
        self.assertEqual(world.history().events()[-1], ("crash", 0, 0))

    def test_start_with_each_keep(self):
        for keep in (0, 1, 2, 3, MOST):
            world = self.taken(("crash", 0))
            old_tape = world.tape(0)
            world.act(("start", 0, keep))
            left = 1 + min(keep, 2)
            self.assertEqual(ups(world, 2), [True, True])
            self.assertIs(world.tape(0), old_tape)
            self.assertEqual([row[1] for row in world.process(0).inputs()], list(range(1, left + 1)))
            self.assertEqual(records(world.tape(0))[-1], ("end", 0, left))
            self.assertEqual((world.tape(0).pending(), world.process(0).version()), (0, 1))
            expected = [("crash", 0, 0), ("start", 0, 0, 1)] + [("undo", 0, 0, left)] * (left < 3)
            self.assertEqual(world.history().events()[6:], expected)
            self.assertEqual(world.packets(), [])

    def test_a_new_process_each_time(self):
        world = self.taken()
        old = world.process(0)
        for version in (1, 2, 3):
            world.act(("crash", 0))
            world.act(("start", 0, 9))
            self.assertIsNot(world.process(0), old)
            self.assertEqual(world.process(0).version(), version)
            old = world.process(0)
        self.assertEqual(records(world.tape(0))[-3:], [("end", 0, 3), ("end", 1, 3), ("end", 2, 3)])

    def test_the_ticks_are_counted_again(self):
        world = run(1, ("tick", 3), ("crash", 0), ("start", 0, 0), ("submit", 0, SHOW), ("round",),
                    ("tick", 3))
        self.assertEqual(world.tape(0).pending(), 1)
        world.act(("tick", 1))
        self.assertEqual(world.tape(0).pending(), 0)

    def test_a_start_of_a_tape_that_crashed_by_itself(self):
        world = self.taken(("arm", 0, 0), ("flush", 0), ("start", 0, 1))
        self.assertEqual(len(world.process(0).inputs()), 2)
        # The tape is not armed any more.
        world.act(("flush", 0))
        self.assertTrue(world.is_up(0))


class Arm(Checks):
    def is_up_behind(self, world, flushes):
        """Tell for each of so many flushes whether the process 0 is up behind it."""
        found = []
        for _ in range(flushes):
            if world.is_up(0):
                world.act(("flush", 0))
            found.append(world.is_up(0))
        return found

    def test_while_up_at_once(self):
        for count in range(4):
            world = run(2, ("arm", 0, count))
            self.assertEqual(self.is_up_behind(world, 4), [True] * count + [False] * (4 - count))
            self.assertTrue(world.is_up(1))

    def test_while_up_several_times(self):
        world = run(2, ("arm", 0, 0), ("arm", 0, 3), ("arm", 0, 1))
        self.assertEqual(self.is_up_behind(world, 3), [True, False, False])

    def test_an_arm_while_up_is_over_behind_a_crash(self):
        world = run(2, ("arm", 0, 2), ("crash", 0), ("start", 0, 0))
        self.assertEqual(self.is_up_behind(world, 4), [True] * 4)

    def test_while_down_at_the_next_start(self):
        # The start takes two operations of those that pass.
        for count in range(2, 6):
            world = run(2, ("crash", 0), ("arm", 0, count))
            self.assertEqual(records(world.tape(0)), [("start",)])
            world.tape(0).sync()
            world.tape(0).sync()
            world.act(("start", 0, 0))
            self.assertEqual(self.is_up_behind(world, 5), [True] * (count - 2) + [False] * (7 - count))

    def test_the_last_one_while_down(self):
        for counts, expected in (((0, 3), [True, False]), ((3, 0, 1, 2), [False, False]),
                                 ((0, 2), [False, False]), ((2, MOST), [True, True])):
            world = run(2, ("crash", 0), *[("arm", 0, count) for count in counts], ("start", 0, 0))
            self.assertEqual(self.is_up_behind(world, 2), expected)

    def test_while_up_and_then_while_down(self):
        world = run(2, ("arm", 0, 0), ("flush", 0), ("start", 0, 0), ("flush", 0))
        self.assertTrue(world.is_up(0))
        world = run(2, ("arm", 0, 0), ("flush", 0), ("arm", 0, 3), ("start", 0, 0))
        self.assertEqual(self.is_up_behind(world, 2), [True, False])

    def test_a_start_that_crashes_at_the_creation(self):
        for count in (0, 1):
            world = run(2, ("submit", 0, SHOW), ("round",), ("crash", 0), ("arm", 0, count),
                        ("start", 0, 1))
            self.assertEqual(ups(world, 2), [False, True])
            self.assertEqual(records(world.tape(0)), "crashed")
            self.assertEqual(world.tape(0).pending(), count)
            # There is no event of it: the process was down, and it still is.
            self.assertEqual([event[0] for event in world.history().events()], ["submit", "take", "crash"])
            # The act arm came before the last start, so it does not count any more.
            world.act(("start", 0, 1))
            self.assertEqual(ups(world, 2), [True, True])
            self.assertEqual(world.process(0).version(), 1 + count)
            self.assertEqual(self.is_up_behind(world, 4), [True] * 4)
            self.assertEqual(records(world.tape(0))[:2], [("start",), desk_input(2, 1, SHOW)])

    def test_each_start_needs_its_own(self):
        world = run(2, ("crash", 0), ("arm", 0, 0), ("start", 0, 0), ("arm", 0, 1), ("start", 0, 0))
        self.assertFalse(world.is_up(0))
        world.act(("start", 0, 0))
        self.assertTrue(world.is_up(0))
        world = run(2, ("crash", 0), ("arm", 0, 2), ("start", 0, 0), ("crash", 0), ("start", 0, 0))
        self.assertEqual(self.is_up_behind(world, 3), [True] * 3)

    def test_an_arm_while_down_belongs_to_one_process(self):
        world = run(2, ("crash", 0), ("crash", 1), ("arm", 1, 0), ("start", 0, 0), ("start", 1, 0))
        self.assertEqual(ups(world, 2), [True, False])


class Refused(Checks):
    def world(self):
        return run(2, ("submit", 0, SHOW), ("deliver", 0), ("submit", 1, SHOW), ("crash", 1), ("arm", 1, 0))

    def test_no_act(self):
        world = self.world()
        for act in other_kinds() + [(), ("stop",), ("tick",), ("tick", 1, 1), ("round", 1), ("deliver",),
                                    ("submit", 0), ("submit", 0, SHOW, 1), ("flush",), ("arm", 0),
                                    ("start", 1), ("crash", 0, 0), ["round"], (("round",),),
                                    deep_tuple("tick", 2000)]:
            self.refuse("act", world, act)

    def test_no_number(self):
        world = self.world()
        for number in (-1, MOST + 1, True, None, "1", 1.0, Touchy()):
            for act in (("tick", number), ("calm", number), ("deliver", number), ("lose", number),
                        ("double", number), ("move", number), ("arm", 0, number), ("start", 1, number)):
                self.refuse("number", world, act)
        for number in (0, 1001, MOST):
            self.refuse("number", world, ("tick", number))
            self.refuse("number", world, ("calm", number))

    def test_no_process(self):
        world = self.world()
        for process in NO_PROCESS + other_kinds():
            for act in (("submit", process, SHOW), ("flush", process), ("arm", process, 0),
                        ("crash", process), ("start", process, 0)):
                self.refuse("process", world, act)

    def test_no_payload(self):
        world = self.world()
        for payload in (None, SHOW[0], ("show", 4), ("send", 2, SHOW), deep_tuple("both", 6), Touchy(),
                        deep_tuple("both", 2000), ["show", 0]):
            self.refuse("payload", world, ("submit", 0, payload))

    def test_no_position(self):
        for many_of in range(4):
            world = run(2, *[("submit", 0, SHOW)] * many_of)
            for kind in ("deliver", "lose", "double", "move"):
                for position in (many_of, many_of + 1, MOST):
                    self.refuse("position", world, (kind, position))

    def test_no_state(self):
        world = self.world()
        for act in (("flush", 1), ("crash", 1), ("start", 0, 0), ("start", 0, MOST)):
            self.refuse("state", world, act)
        # The act arm still waits: the start that was refused is none.
        world.act(("start", 1, 0))
        self.assertFalse(world.is_up(1))
        world.act(("start", 1, 0))
        self.refuse("state", world, ("start", 1, 0))

    def test_the_first_reason_decides(self):
        world = self.world()
        for reason, act in (
                ("act", ("tick", 0, 0)), ("act", ("deliver", -1, 1)), ("act", ("flush", 9, 9)),
                ("act", ("submit", 9)), ("act", ("arm", 9, -1, 0)), ("act", ("start", 9)),
                ("number", ("arm", 9, -1)), ("number", ("start", 9, -1)), ("number", ("start", None, None)),
                ("number", ("start", 0, -1)), ("number", ("start", 0, MOST + 1)),
                ("number", ("deliver", MOST + 1)), ("position", ("deliver", MOST)),
                ("process", ("submit", 9, None)), ("process", ("submit", None, ("show", 4))),
                ("process", ("start", 9, 0)), ("process", ("flush", 9)), ("process", ("crash", -1)),
                ("payload", ("submit", 1, ("show", 4))), ("state", ("start", 0, MOST))):
            self.refuse(reason, world, act)

    def test_an_arm_is_possible_at_any_time(self):
        world = self.world()
        world.act(("arm", 0, 0))
        world.act(("flush", 0))
        world.act(("arm", 0, 5))
        self.assertFalse(world.is_up(0))


class Events(Checks):
    def events(self, world):
        return world.history().events()

    def test_a_run_without_crashes(self):
        first, second = both(("set", 0, 7), SHOW, ("send", 1, SHOW)), ("show", 1)
        world = run(2, ("submit", 0, first), ("tick", 1), ("submit", 0, second), ("round",), ("calm", 7))
        self.assertEqual(self.events(world), [
            ("submit", 0, 0, 1, first), ("submit", 1, 0, 2, second),
            ("take", 1, 0, 0, DESK, 1, first), ("take", 1, 0, 0, DESK, 2, second),
            ("take", 2, 1, 0, 0, 1, SHOW),
            ("show", 4, 0, 1, "7"), ("show", 4, 0, 2, "0"), ("show", 5, 1, 1, "0")])

    def test_no_event_where_nothing_happened(self):
        world = run(2, ("tick", 3), ("calm", 2), ("round",), ("flush", 0), ("arm", 0, 50), ("arm", 1, 9))
        self.assertEqual(self.events(world), [])
        world = run(1, ("submit", 0, SHOW), ("double", 0), ("move", 0), ("lose", 0))
        self.assertEqual(self.events(world), [("submit", 0, 0, 1, SHOW)])
        world.act(("deliver", 0))
        self.assertEqual(len(self.events(world)), 2)
        # The same input again, a later one, and an output again.
        world.act(("submit", 0, SHOW))
        world.act(("submit", 0, SHOW))
        world.act(("lose", 0))
        world.act(("deliver", 0))
        world.act(("tick", 1))
        world.act(("deliver", 0))
        self.assertEqual([event[0] for event in self.events(world)], ["submit", "take", "submit", "submit"])

    def test_an_output_is_noted_once(self):
        world = run(1, ("submit", 0, both(SHOW, ("set", 0, 1), SHOW)), ("deliver", 0), ("flush", 0),
                    ("tick", 2))
        self.assertEqual([letter[:3] for _, to, letter in world.packets() if to == DESK],
                         [("show", 0, 1), ("show", 0, 2)] * 2)
        world.act(("move", 0))
        world.act(("round",))
        shows = [event for event in self.events(world) if event[0] == "show"]
        self.assertEqual(shows, [("show", 2, 0, 1, "0"), ("show", 2, 0, 2, "1")])

    def test_take_in_the_right_version(self):
        world = run(1, ("submit", 0, SHOW), ("round",), ("flush", 0), ("crash", 0), ("start", 0, 0),
                    ("submit", 0, ("show", 1)), ("round",), ("flush", 0), ("crash", 0), ("start", 0, 0),
                    ("tick", 2), ("submit", 0, ("send", 0, SHOW)), ("deliver", 2), ("deliver", 2))
        self.assertEqual([event for event in self.events(world) if event[0] in ("take", "start")], [
            ("take", 0, 0, 0, DESK, 1, SHOW), ("start", 0, 0, 1), ("take", 0, 0, 1, DESK, 2, ("show", 1)),
            ("start", 0, 0, 2)])
        world = run(1, ("crash", 0), ("start", 0, 0), ("submit", 0, ("send", 0, SHOW)), ("round",),
                    ("tick", 5), ("deliver", 0))
        self.assertEqual(self.events(world)[-2:], [("take", 0, 0, 1, DESK, 1, ("send", 0, SHOW)),
                                                   ("take", 5, 0, 1, 0, 1, SHOW)])

    def undoing(self, *more):
        """The process 1 took an input of a state of the process 0 that is lost now."""
        return run(2, ("submit", 1, SHOW), ("submit", 0, ("send", 1, SHOW)), ("round",), ("round",),
                   ("submit", 1, SHOW), ("round",), ("crash", 0), ("tick", 2), ("start", 0, 0), *more)

    def test_undo_with_the_number_of_inputs_that_are_left(self):
        world = self.undoing()
        self.assertEqual(self.events(world)[-3:],
                         [("crash", 0, 0), ("start", 2, 0, 1), ("undo", 2, 0, 0)])
        self.assertEqual(len(world.process(1).inputs()), 3)
        world.act(("calm", 1))
        undone = [event for event in self.events(world) if event[0] == "undo" and event[2] == 1]
        self.assertEqual(undone, [("undo", 3, 1, 1)])

    def test_an_undo_behind_a_start_alone(self):
        # The process 1 is down when it could hear of the end; it hears of it, and goes down again.
        world = self.undoing(("arm", 1, 3), ("tick", 1))
        position = [at for at, (_, to, letter) in enumerate(world.packets())
                    if to == 1 and letter[0] == "end"][0]
        world.act(("deliver", position))
        self.assertFalse(world.is_up(1))
        for keep, version in ((1, 2), (0, 1)):
            again = self.undoing(("arm", 1, 3), ("tick", 1), ("deliver", position), ("tick", 1),
                                 ("start", 1, keep))
            self.assertEqual(self.events(again)[-3:],
                             [("crash", 3, 1), ("start", 4, 1, version), ("undo", 4, 1, 1)])

    def test_an_undo_behind_a_start_counts_from_the_last_call(self):
        world = run(1, ("submit", 0, SHOW), ("submit", 0, SHOW), ("round",), ("crash", 0), ("arm", 0, 0),
                    ("start", 0, 1), ("tick", 1), ("start", 0, 0))
        self.assertEqual(self.events(world)[-3:], [("crash", 0, 0), ("start", 1, 0, 1), ("undo", 1, 0, 1)])
        # From its creation on, if no call returned.
        world.act(("crash", 0))
        world.act(("start", 0, 0))
        self.assertEqual(self.events(world)[-2:], [("crash", 1, 0), ("start", 1, 0, 2)])
        world.act(("arm", 0, 0))
        world.act(("flush", 0))
        world.act(("start", 0, 0))
        self.assertEqual(self.events(world)[-2:], [("crash", 1, 0), ("start", 1, 0, 3)])

    def test_crash_and_start(self):
        world = run(2, ("crash", 1), ("tick", 3), ("start", 1, 0), ("tick", 1), ("crash", 1), ("crash", 0),
                    ("start", 0, 5), ("start", 1, 5))
        self.assertEqual(self.events(world), [
            ("crash", 0, 1), ("start", 3, 1, 1), ("crash", 4, 1), ("crash", 4, 0), ("start", 4, 0, 1),
            ("start", 4, 1, 2)])

    def test_several_outputs_in_one_round(self):
        world = run(1, ("submit", 0, many(SHOW, 3)), ("round",), ("flush", 0), ("calm", 1))
        self.assertEqual([event for event in self.events(world) if event[0] == "show"],
                         [("show", 1, 0, number, "0") for number in range(1, 9)])


class Home(unittest.TestCase):
    def test_each_method_is_defined_in_the_class(self):
        self.assertEqual(World.__module__, "firmground.world")
        for name in METHODS:
            with self.subTest(name=name):
                self.assertIn(name, vars(World))

    def test_arguments_by_name(self):
        world = World(count=1)
        world.act(step=("tick", 1))
        self.assertTrue(world.is_up(process=0))
        self.assertIs(world.process(process=0), world.process(0))
        self.assertIs(world.tape(process=0), world.tape(0))

    def test_an_argument_is_not_changed(self):
        act = ("submit", 0, both(SHOW, SHOW))
        World(1).act(act)
        self.assertEqual(act, ("submit", 0, both(SHOW, SHOW)))
