"""Points 500 to 504: firmground.past."""

import random
import unittest

from firmground import past as module
from firmground.clocks import zero
from firmground.ends import Ends
from firmground.machine import START, run
from firmground.past import Past

DESK = -1
SHOW = ("show", 0)
METHODS = ("take", "cut", "size", "inputs", "taken", "cells", "clock", "sends", "outputs", "alive")


def send_all(*steps):
    """A payload that makes these steps, one after the other."""
    payload = steps[-1]
    for step in reversed(steps[:-1]):
        payload = ("both", step, payload)
    return payload


class Model:
    """A past that works everything out from its inputs, again at each question."""

    def __init__(self, me, count):
        self.me, self.count, self.rows = me, count, []

    def states(self):
        cells, clock = START, ((0, 0),) * self.count
        found = [(cells, clock, [], [])]
        for number, (sender, _, payload, other, version) in enumerate(self.rows):
            cells, sends, outputs = run(cells, payload)
            pairs = [max(pair) for pair in zip(clock, other)]
            pairs[self.me] = (version, number + 1)
            clock = tuple(pairs)
            found.append((cells, clock, sends, outputs))
        return found

    def sends(self, receiver):
        found = []
        for _, clock, sends, _ in self.states():
            for process, payload in sends:
                if process == receiver:
                    found.append((len(found) + 1, payload, clock))
        return found

    def outputs(self, count):
        return [text for state in self.states()[:count + 1] for text in state[3]]

    def taken(self, sender, count):
        return sum(1 for row in self.rows[:count] if row[0] == sender)

    def alive(self, rows):
        for count, (_, clock, _, _) in enumerate(self.states()):
            for process, (version, number) in enumerate(clock):
                if any(other >= version and stays < number
                       for other, stays in enumerate(rows[process])):
                    return count - 1
        return len(self.rows)


def ends_of(rows):
    made = Ends(len(rows))
    for process, row in enumerate(rows):
        for version, stays in enumerate(row):
            assert made.add(process, version, stays)
    return made


class Checks(unittest.TestCase):
    def take(self, past, sender, number, payload=SHOW, clock=None, version=0, count=3):
        return past.take(sender, number, payload, zero(count) if clock is None else clock, version)

    def compare(self, past, model):
        """Ask everything of both."""
        size = len(model.rows)
        states = model.states()
        self.assertEqual(past.size(), size)
        self.assertEqual(past.inputs(), model.rows)
        self.assertEqual(past.cells(), states[-1][0])
        for count in range(size + 1):
            self.assertEqual(past.clock(count), states[count][1])
            self.assertEqual(past.outputs(count), model.outputs(count))
            for sender in range(-1, model.count + 1):
                self.assertEqual(past.taken(sender, count), model.taken(sender, count))
        for receiver in range(model.count + 1):
            self.assertEqual(past.sends(receiver), model.sends(receiver))


class Empty(Checks):
    def test_a_new_past(self):
        for count in (1, 2, 10):
            for me in range(count):
                past = Past(me, count)
                self.assertEqual((past.size(), past.inputs(), past.cells()), (0, [], START))
                self.assertEqual(past.clock(0), ((0, 0),) * count)
                self.assertEqual(past.outputs(0), [])
                for process in range(count):
                    self.assertEqual((past.sends(process), past.taken(process, 0)), ([], 0))
                self.assertEqual(past.taken(DESK, 0), 0)
                self.assertEqual(past.alive(Ends(count)), 0)
                self.assertEqual(past.alive(ends_of([[0, 0]] * count)), 0)
                self.assertIsNone(past.cut(0))
                self.assertEqual(past.size(), 0)


class Take(Checks):
    def test_the_processes_that_it_sends_to(self):
        cases = [
            (("set", 0, 3), []),
            (("show", 0), []),
            (("send", 1, SHOW), [1]),
            (("send", 0, SHOW), [0]),
            (send_all(("send", 2, SHOW), ("send", 0, SHOW), ("send", 2, ("set", 0, 1))), [2, 0, 2]),
            (("if", 0, ("send", 1, SHOW), ("send", 2, SHOW)), [2]),
            (("send", 1, ("send", 2, SHOW)), [1]),
        ]
        for payload, expected in cases:
            with self.subTest(payload=payload):
                past = Past(0, 3)
                found = self.take(past, DESK, 1, payload)
                self.assertEqual(found, expected)
                self.assertIs(type(found), list)
                self.assertEqual(past.size(), 1)

    def test_only_the_sends_of_this_input(self):
        past = Past(0, 3)
        self.assertEqual(self.take(past, DESK, 1, ("send", 1, SHOW)), [1])
        self.assertEqual(self.take(past, DESK, 2, ("send", 2, SHOW)), [2])
        self.assertEqual(self.take(past, DESK, 3, SHOW), [])
        self.assertEqual(self.take(past, DESK, 4, send_all(("send", 1, SHOW), ("send", 1, SHOW))), [1, 1])

    def test_inputs_in_order_with_their_versions(self):
        past = Past(1, 3)
        rows = [(DESK, 1, ("set", 0, 4), zero(3), 0), (2, 1, SHOW, ((0, 0), (0, 0), (0, 5)), 0),
                (1, 1, ("add", 0, 2), ((0, 0), (0, 2), (0, 5)), 3), (DESK, 2, SHOW, zero(3), 3),
                (2, 2, ("copy", 0, 1), ((1, 1), (0, 0), (2, 6)), 4)]
        for count, row in enumerate(rows):
            past.take(*row)
            self.assertEqual(past.inputs(), rows[:count + 1])
            self.assertEqual(past.size(), count + 1)

    def test_the_number_is_kept_as_it_is_given(self):
        past = Past(0, 1)
        past.take(DESK, 7, SHOW, zero(1), 0)
        self.assertEqual(past.inputs(), [(DESK, 7, SHOW, zero(1), 0)])
        self.assertEqual((past.taken(DESK, 1), past.taken(0, 1)), (1, 0))

    def test_taken_for_each_sender_and_each_count(self):
        past = Past(0, 3)
        senders = [DESK, 2, 2, 0, DESK, 1, 2, DESK]
        for sender in senders:
            self.take(past, sender, senders.count(sender))
        for count in range(len(senders) + 1):
            for sender in (DESK, 0, 1, 2):
                self.assertEqual(past.taken(sender, count), senders[:count].count(sender))
        for count in (9, 100, 10 ** 12):
            self.assertEqual(past.taken(2, count), 3)

    def test_cells(self):
        past = Past(0, 1)
        for payload, expected in ((("set", 1, 5), (0, 5, 0, 0)), (("add", 1, -7), (0, -2, 0, 0)),
                                  (("copy", 3, 1), (0, -2, 0, -2)), (SHOW, (0, -2, 0, -2)),
                                  (("if", 3, ("set", 0, 1), ("set", 0, 2)), (1, -2, 0, -2)),
                                  (("send", 0, ("set", 0, 9)), (1, -2, 0, -2))):
            past.take(DESK, 1, payload, zero(1), 0)
            self.assertEqual(past.cells(), expected)
            self.assertIs(type(past.cells()), tuple)

    def test_payloads_somewhat_beyond_the_limits(self):
        past = Past(0, 2)
        deep = SHOW
        for _ in range(12):
            deep = ("both", ("add", 0, 10 ** 7), deep)
        self.assertEqual(past.take(DESK, 1, ("both", deep, ("send", 4, SHOW)), zero(2), 0), [4])
        self.assertEqual(past.outputs(1), [str(12 * 10 ** 7)])
        self.assertEqual(past.sends(4), [(1, SHOW, ((0, 1), (0, 0)))])


class Clocks(Checks):
    def test_the_clock_of_each_state(self):
        past = Past(1, 3)
        self.take(past, DESK, 1)
        self.take(past, 0, 1, clock=((0, 4), (0, 0), (0, 2)))
        self.take(past, 2, 1, clock=((0, 3), (0, 1), (1, 1)))
        self.take(past, 0, 2, clock=((1, 2), (0, 2), (0, 9)))
        expected = [zero(3), ((0, 0), (0, 1), (0, 0)), ((0, 4), (0, 2), (0, 2)),
                    ((0, 4), (0, 3), (1, 1)), ((1, 2), (0, 4), (1, 1))]
        self.assertEqual([past.clock(count) for count in range(5)], expected)

    def test_versions_that_rise(self):
        past = Past(0, 2)
        for version in (0, 0, 2, 2, 5):
            self.take(past, DESK, 1, version=version, count=2)
        self.assertEqual([past.clock(count)[0] for count in range(6)],
                         [(0, 0), (0, 1), (0, 2), (2, 3), (2, 4), (5, 5)])
        self.assertEqual({past.clock(count)[1] for count in range(6)}, {(0, 0)})

    def test_the_own_pair_is_that_of_the_state(self):
        past = Past(0, 2)
        # A send to the own process comes back with a pair that is less, or even greater.
        self.take(past, 0, 1, clock=((0, 9), (0, 0)), count=2)
        self.take(past, 0, 2, clock=((7, 9), (0, 3)), count=2)
        self.take(past, 0, 3, clock=((0, 1), (0, 1)), version=1, count=2)
        self.assertEqual([past.clock(count) for count in range(4)],
                         [zero(2), ((0, 1), (0, 0)), ((0, 2), (0, 3)), ((1, 3), (0, 3))])

    def test_for_each_own_process(self):
        for me in range(4):
            past = Past(me, 4)
            other = ((0, 8), (1, 8), (2, 8), (3, 8))
            past.take(DESK, 1, SHOW, other, 6)
            self.assertEqual(past.clock(1), other[:me] + ((6, 1),) + other[me + 1:])


class Effects(Checks):
    def filled(self):
        past = Past(0, 3)
        self.take(past, DESK, 1, send_all(("send", 1, SHOW), ("show", 1), ("send", 2, SHOW)))
        self.take(past, 2, 1, ("set", 1, 6), clock=((0, 0), (0, 0), (0, 4)))
        self.take(past, DESK, 2, send_all(("show", 1), ("send", 1, ("show", 1)), ("show", 0),
                                          ("send", 1, ("show", 2)), ("send", 0, ("show", 3))))
        self.take(past, 0, 1, ("send", 1, ("show", 3)), clock=((0, 3), (0, 0), (0, 4)), version=1)
        return past

    def test_sends_with_their_numbers_and_clocks(self):
        past = self.filled()
        first, third = ((0, 1), (0, 0), (0, 0)), ((0, 3), (0, 0), (0, 4))
        fourth = ((1, 4), (0, 0), (0, 4))
        self.assertEqual(past.sends(0), [(1, ("show", 3), third)])
        self.assertEqual(past.sends(1), [(1, SHOW, first), (2, ("show", 1), third),
                                         (3, ("show", 2), third), (4, ("show", 3), fourth)])
        self.assertEqual(past.sends(2), [(1, SHOW, first)])

    def test_outputs_for_each_count(self):
        past = self.filled()
        expected = [[], ["0"], ["0"], ["0", "6", "0"], ["0", "6", "0"]]
        self.assertEqual([past.outputs(count) for count in range(5)], expected)
        self.assertEqual(past.outputs(9), ["0", "6", "0"])

    def test_every_returned_list_may_be_changed(self):
        past, same = self.filled(), self.filled()
        receivers = past.take(DESK, 3, send_all(("send", 2, SHOW), ("show", 0)), zero(3), 1)
        same.take(DESK, 3, send_all(("send", 2, SHOW), ("show", 0)), zero(3), 1)
        for found in (receivers, past.inputs(), past.sends(0), past.sends(1), past.sends(2),
                      past.outputs(0), past.outputs(3), past.outputs(5)):
            self.assertIs(type(found), list)
            found.append("x")
            found[0] = "y"
            found.clear()
        for past_count in range(6):
            self.assertEqual(past.outputs(past_count), same.outputs(past_count))
        for receiver in range(4):
            past.sends(receiver).append("x")
            self.assertEqual(past.sends(receiver), same.sends(receiver))
        self.assertEqual(past.inputs(), same.inputs())
        for count in (4, 2, 0):
            past.cut(count)
            same.cut(count)
            self.assertEqual(past.sends(2), same.sends(2))
            self.assertEqual(past.inputs(), same.inputs())

    def test_objects_are_apart(self):
        past, other = self.filled(), self.filled()
        past.cut(0)
        self.assertEqual(other.size(), 4)
        self.assertEqual(len(other.sends(1)), 4)


class Cut(Checks):
    ROWS = [
        (DESK, 1, send_all(("send", 1, SHOW), ("show", 1), ("set", 1, 3)), zero(3), 0),
        (2, 1, ("send", 0, ("show", 1)), ((0, 0), (0, 0), (0, 4)), 0),
        (0, 1, send_all(("show", 1), ("add", 1, 4), ("send", 1, ("show", 2))),
         ((0, 2), (0, 0), (0, 4)), 1),
        (1, 1, send_all(("send", 2, SHOW), ("send", 2, SHOW), ("send", 1, SHOW)),
         ((0, 1), (0, 6), (0, 0)), 1),
        (DESK, 2, send_all(("show", 1), ("show", 0)), zero(3), 4),
    ]

    def pair(self, rows):
        past, model = Past(0, 3), Model(0, 3)
        for row in rows:
            past.take(*row)
            model.rows.append(row)
        return past, model

    def test_to_each_count(self):
        for count in range(len(self.ROWS) + 1):
            with self.subTest(count=count):
                past, model = self.pair(self.ROWS)
                self.compare(past, model)
                self.assertIsNone(past.cut(count))
                model.rows = model.rows[:count]
                self.compare(past, model)
                self.compare(past, self.pair(self.ROWS[:count])[1])

    def test_to_more_than_the_size(self):
        past, model = self.pair(self.ROWS)
        for count in (5, 6, 10 ** 12):
            past.cut(count)
            self.compare(past, model)

    def test_inputs_that_are_taken_after_a_cut(self):
        more = [(DESK, 9, send_all(("send", 1, ("set", 0, 5)), ("show", 1)), zero(3), 5),
                (2, 2, send_all(("send", 2, SHOW), ("send", 0, SHOW)), ((0, 0), (3, 1), (2, 2)), 5)]
        for count in range(len(self.ROWS) + 1):
            with self.subTest(count=count):
                past, model = self.pair(self.ROWS)
                past.cut(count)
                model.rows = model.rows[:count]
                for row in more:
                    past.take(*row)
                    model.rows.append(row)
                    self.compare(past, model)
                past.cut(count)
                model.rows = model.rows[:count]
                self.compare(past, model)

    def test_one_cut_after_the_other(self):
        past, model = self.pair(self.ROWS)
        for count in (4, 4, 3, 1, 0, 0):
            past.cut(count)
            model.rows = model.rows[:count]
            self.compare(past, model)

    def test_many_runs(self):
        source = random.Random(20261120)
        for run_number in range(60):
            me, count = run_number % 3, 3
            past, model, version = Past(me, count), Model(me, count), 0
            for _ in range(25):
                if source.random() < 0.2:
                    stays = source.randint(0, len(model.rows))
                    past.cut(stays)
                    model.rows = model.rows[:stays]
                    version += 1
                else:
                    row = self.some_input(source, version)
                    past.take(*row)
                    model.rows.append(row)
            self.compare(past, model)
            for _ in range(5):
                rows = [[source.randint(0, 20) for _ in range(source.randint(0, 4))] for _ in range(3)]
                self.assertEqual(past.alive(ends_of(rows)), model.alive(rows))

    def some_input(self, source, version):
        steps = [("show", 1), ("add", 1, 3), ("send", 0, SHOW), ("send", 1, ("show", 1)),
                 ("send", 2, ("set", 0, 1)), ("if", 1, ("show", 2), ("copy", 2, 1))]
        payload = send_all(*[source.choice(steps) for _ in range(source.randint(1, 4))])
        clock = tuple((source.randint(0, 3), source.randint(1, 20)) for _ in range(3))
        return source.randint(-1, 2), source.randint(1, 9), payload, clock, version


class Alive(Checks):
    def filled(self):
        """States that depend on the states 1, 2, 3 and so on of the process 1."""
        past = Past(0, 2)
        for number in range(1, 6):
            past.take(1, number, SHOW, ((0, 0), (0, number)), 0)
        return past

    def test_no_ends(self):
        self.assertEqual(self.filled().alive(Ends(2)), 5)

    def test_ends_of_another_process(self):
        for stays in range(8):
            self.assertEqual(self.filled().alive(ends_of([[], [stays]])), min(stays, 5))

    def test_ends_of_the_own_process(self):
        for stays in range(8):
            self.assertEqual(self.filled().alive(ends_of([[stays], []])), min(stays, 5))
        self.assertEqual(self.filled().alive(ends_of([[3], [2]])), 2)
        self.assertEqual(self.filled().alive(ends_of([[2], [3]])), 2)

    def test_it_changes_nothing(self):
        past = self.filled()
        ends = ends_of([[], [2]])
        past.alive(ends)
        self.assertEqual((past.size(), past.alive(ends), ends.row(1)), (5, 2, [2]))
        self.assertEqual(past.alive(Ends(2)), 5)

    def test_behind_a_cut(self):
        past = self.filled()
        past.cut(2)
        self.assertEqual(past.alive(ends_of([[], [4]])), 2)
        self.assertEqual(past.alive(ends_of([[], [1]])), 1)

    def test_a_later_state_that_is_alive_again(self):
        past = Past(0, 2)
        past.take(1, 1, SHOW, ((0, 0), (0, 2)), 0)
        past.take(1, 2, SHOW, ((0, 0), (0, 5)), 0)
        past.take(1, 3, SHOW, ((0, 0), (1, 1)), 0)
        past.take(1, 4, SHOW, ((0, 0), (1, 2)), 0)
        ends = ends_of([[], [3]])
        self.assertEqual([ends.dead(past.clock(count)) for count in range(5)],
                         [False, False, True, False, False])
        self.assertEqual(past.alive(ends), 1)

    def test_the_clocks_of_the_states_decide(self):
        # What a state depends on stays in the clocks of the states behind it.
        past = Past(0, 3)
        past.take(DESK, 1, SHOW, zero(3), 0)
        past.take(1, 1, SHOW, ((0, 0), (0, 9), (0, 0)), 0)
        past.take(2, 1, SHOW, ((0, 0), (0, 0), (0, 4)), 0)
        self.assertEqual(past.alive(ends_of([[], [8], []])), 1)
        self.assertEqual(past.alive(ends_of([[], [], [3]])), 2)
        self.assertEqual(past.alive(ends_of([[], [9], [4]])), 3)


class Home(unittest.TestCase):
    def test_each_method_is_defined_in_the_class(self):
        self.assertEqual(Past.__module__, "firmground.past")
        self.assertIs(module.Past, Past)
        for name in METHODS:
            with self.subTest(name=name):
                self.assertIn(name, vars(Past))

    def test_arguments_by_name(self):
        past = Past(me=0, count=1)
        self.assertEqual(past.take(sender=DESK, number=1, payload=SHOW, clock=((0, 0),), version=0), [])
        self.assertEqual(past.taken(sender=DESK, count=1), 1)
        self.assertEqual(past.clock(count=1), ((0, 1),))
        self.assertEqual(past.sends(receiver=0), [])
        self.assertEqual(past.outputs(count=1), ["0"])
        self.assertEqual(past.alive(ends=Ends(count=1)), 1)
        self.assertIsNone(past.cut(count=0))
