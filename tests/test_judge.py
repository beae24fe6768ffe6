"""Points 750 and 753 to 759: firmground.judge, on histories that are made by hand."""

import copy
import random
import unittest

from firmground import judge as module
from firmground.judge import judge, run_fault, show_fault, take_fault, undo_fault
from firmground.machine import START, run
from tests.making import DESK, SHOW, both, some_payload

FUNCTIONS = (take_fault, undo_fault, show_fault, run_fault)
SET = ("set", 0, 7)


def submit(process, number, payload, time=0):
    return ("submit", time, process, number, payload)


def take(process, sender, number, payload, version=0, time=0):
    return ("take", time, process, version, sender, number, payload)


def undo(process, count, time=0):
    return ("undo", time, process, count)


def show(process, number, text, time=0):
    return ("show", time, process, number, text)


GOOD = [
    submit(0, 1, both(SET, SHOW, ("send", 1, SHOW))), take(0, DESK, 1, both(SET, SHOW, ("send", 1, SHOW))),
    take(1, 0, 1, SHOW, time=1), submit(1, 1, SHOW, time=2), ("crash", 3, 1), take(1, DESK, 1, SHOW, time=3),
    ("start", 4, 1, 1), undo(1, 1, time=4), show(0, 1, "7", time=5), take(1, DESK, 1, SHOW, 1, time=5),
    submit(1, 2, ("show", 1), time=5), show(1, 1, "0", time=6), show(1, 2, "0", time=6),
]


class Checks(unittest.TestCase):
    def check(self, function, expected, *events):
        rows = list(events)
        copied = copy.deepcopy(rows)
        with self.subTest(events=rows):
            self.assertEqual(function(rows), expected)
            self.assertEqual(rows, copied)
            self.assertEqual(type(function(rows)), type(expected))


class NoFault(Checks):
    def test_no_events(self):
        for function in FUNCTIONS:
            self.check(function, None)
        self.check(judge, [])

    def test_a_good_run_and_each_beginning_of_it(self):
        for length in range(len(GOOD) + 1):
            for function in FUNCTIONS:
                self.check(function, None, *GOOD[:length])
            self.check(judge, [], *GOOD[:length])

    def test_crash_and_start_say_nothing(self):
        for function in FUNCTIONS:
            self.check(function, None, ("crash", 0, 5), ("start", 0, 5, 0), ("start", 1, 99, 7), ("crash", 2, 99))


class Take(Checks):
    def test_numbers_of_a_process(self):
        for sender in (0, 1, 2, 99):
            for number, fault in ((1, None), (2, ("number", 1, sender, 2)), (9, ("number", 1, sender, 9))):
                self.check(take_fault, fault, take(1, sender, number, SHOW))
            for number, fault in ((1, ("number", 1, sender, 1)), (2, ("number", 1, sender, 2)), (3, None),
                                  (4, ("number", 1, sender, 4))):
                self.check(take_fault, fault, take(1, sender, 1, SHOW), take(1, sender, 2, SHOW),
                           take(1, sender, number, SHOW))

    def test_numbers_of_the_desk(self):
        rows = [submit(0, 1, SHOW), submit(0, 2, SET), submit(0, 3, SHOW), take(0, DESK, 1, SHOW)]
        self.check(take_fault, None, *rows, take(0, DESK, 2, SET))
        self.check(take_fault, ("number", 0, DESK, 1), *rows, take(0, DESK, 1, SHOW))
        self.check(take_fault, ("number", 0, DESK, 3), *rows, take(0, DESK, 3, SHOW))

    def test_senders_and_processes_are_apart(self):
        self.check(take_fault, None, take(0, 1, 1, SHOW), take(0, 2, 1, SHOW), take(1, 1, 1, SHOW),
                   take(0, 1, 2, SHOW), take(1, 2, 1, SHOW), take(0, 0, 1, SHOW), take(99, 1, 1, SHOW))
        self.check(take_fault, ("number", 0, 2, 2), take(0, 1, 1, SHOW), take(0, 2, 2, SHOW))
        self.check(take_fault, ("number", 1, 1, 2), take(0, 1, 1, SHOW), take(1, 1, 2, SHOW))

    def test_numbers_behind_an_undo(self):
        rows = [take(0, 1, 1, SHOW), take(0, 2, 1, SHOW), take(0, 1, 2, SHOW)]
        for left, good, bad in ((0, 1, 3), (1, 2, 1), (2, 2, 3), (3, 3, 2), (9, 3, 1)):
            self.check(take_fault, None, *rows, undo(0, left), take(0, 1, good, SHOW))
            self.check(take_fault, ("number", 0, 1, bad), *rows, undo(0, left), take(0, 1, bad, SHOW))
        # An undo of another process changes nothing.
        self.check(take_fault, None, *rows, undo(1, 0), undo(2, 0), take(0, 1, 3, SHOW))

    def test_what_was_not_submitted(self):
        fault = ("desk", 0, 1)
        self.check(take_fault, fault, take(0, DESK, 1, SHOW))
        self.check(take_fault, None, submit(0, 1, SHOW), take(0, DESK, 1, SHOW))
        self.check(take_fault, fault, take(0, DESK, 1, SHOW), submit(0, 1, SHOW))
        self.check(take_fault, fault, submit(1, 1, SHOW), take(0, DESK, 1, SHOW))
        self.check(take_fault, fault, submit(0, 2, SHOW), take(0, DESK, 1, SHOW))
        self.check(take_fault, fault, submit(0, 1, SET), take(0, DESK, 1, SHOW))
        self.check(take_fault, ("desk", 0, 2), submit(0, 1, SHOW), take(0, DESK, 1, SHOW),
                   take(0, DESK, 2, SHOW))

    def test_two_submits_with_one_number(self):
        rows = [submit(0, 1, SHOW), submit(0, 1, SET)]
        self.check(take_fault, None, *rows, take(0, DESK, 1, SHOW))
        self.check(take_fault, None, *rows, take(0, DESK, 1, SET))
        self.check(take_fault, ("desk", 0, 1), *rows, take(0, DESK, 1, ("show", 1)))

    def test_a_submitted_input_is_taken_again(self):
        rows = [submit(0, 1, SHOW), take(0, DESK, 1, SHOW), undo(0, 0)]
        self.check(take_fault, None, *rows, take(0, DESK, 1, SHOW))

    def test_what_a_process_sent_does_not_matter_here(self):
        self.check(take_fault, None, take(0, 1, 1, SHOW), take(1, 0, 1, SET))

    def test_the_number_comes_first(self):
        self.check(take_fault, ("number", 0, DESK, 2), take(0, DESK, 2, SHOW))
        self.check(take_fault, ("desk", 0, 1), take(0, DESK, 1, SHOW))

    def test_the_first_one_of_several(self):
        rows = [submit(0, 1, SHOW), take(0, DESK, 1, SHOW), take(3, 1, 2, SHOW), take(2, DESK, 1, SHOW),
                take(0, 1, 5, SHOW)]
        self.check(take_fault, ("number", 3, 1, 2), *rows)
        self.check(take_fault, ("desk", 2, 1), *(rows[:2] + rows[3:]))
        self.check(take_fault, ("number", 0, 1, 5), *(rows[:2] + rows[4:]))


class Undo(Checks):
    def test_more_equal_and_fewer(self):
        for many in range(4):
            rows = [take(0, 1, number, SHOW) for number in range(1, many + 1)]
            for count in range(6):
                self.check(undo_fault, None if count < many else ("undo", 0, count), *rows, undo(0, count))

    def test_one_behind_the_other(self):
        rows = [take(0, 1, number, SHOW) for number in range(1, 6)]
        self.check(undo_fault, None, *rows, undo(0, 4), undo(0, 2), undo(0, 1), undo(0, 0))
        self.check(undo_fault, ("undo", 0, 2), *rows, undo(0, 2), undo(0, 2))
        self.check(undo_fault, ("undo", 0, 3), *rows, undo(0, 2), undo(0, 3))
        self.check(undo_fault, None, *rows, undo(0, 2), take(0, 1, 3, SHOW), undo(0, 2))
        self.check(undo_fault, ("undo", 0, 0), *rows, undo(0, 0), undo(0, 0))

    def test_processes_are_apart(self):
        rows = [take(0, 1, 1, SHOW), take(0, 1, 2, SHOW)]
        self.check(undo_fault, ("undo", 1, 0), *rows, undo(1, 0))
        self.check(undo_fault, None, *rows, undo(0, 1))

    def test_the_first_one_of_several(self):
        self.check(undo_fault, ("undo", 5, 3), take(0, 1, 1, SHOW), undo(0, 0), undo(5, 3), undo(0, 0))

    def test_what_comes_behind_does_not_count(self):
        self.check(undo_fault, ("undo", 0, 0), undo(0, 0), take(0, 1, 1, SHOW))


class Show(Checks):
    ROWS = [take(0, 1, 1, both(SHOW, SET, SHOW)), take(0, 1, 2, SET), take(0, 1, 3, ("show", 0))]

    def test_the_outputs_in_order(self):
        self.check(show_fault, None, *self.ROWS, show(0, 1, "0"), show(0, 2, "7"), show(0, 3, "7"))
        self.check(show_fault, None, self.ROWS[0], show(0, 1, "0"), show(0, 2, "7"), *self.ROWS[1:],
                   show(0, 3, "7"))

    def test_numbers(self):
        for shown, number, fault in ((0, 2, True), (0, 3, True), (0, 1, False), (1, 1, True), (1, 2, False),
                                     (1, 3, True), (2, 2, True), (2, 3, False), (3, 3, True), (3, 1, True)):
            rows = [show(0, at + 1, text) for at, text in enumerate("077"[:shown])]
            self.check(show_fault, ("order", 0, number) if fault else None, *self.ROWS, *rows,
                       show(0, number, "077"[number - 1]))

    def test_other_texts_and_too_few_outputs(self):
        self.check(show_fault, ("show", 0, 1), *self.ROWS, show(0, 1, "7"))
        self.check(show_fault, ("show", 0, 1), *self.ROWS, show(0, 1, ""))
        self.check(show_fault, ("show", 0, 2), *self.ROWS, show(0, 1, "0"), show(0, 2, "0"))
        self.check(show_fault, ("show", 0, 1), show(0, 1, "0"))
        self.check(show_fault, ("show", 0, 1), show(0, 1, "0"), *self.ROWS)
        self.check(show_fault, ("show", 0, 3), *self.ROWS[:2], show(0, 1, "0"), show(0, 2, "7"),
                   show(0, 3, "7"), self.ROWS[2])

    def test_the_order_comes_first(self):
        self.check(show_fault, ("order", 0, 2), show(0, 2, "x"))
        self.check(show_fault, ("order", 0, 1), *self.ROWS, show(0, 1, "0"), show(0, 1, "x"))

    def test_processes_are_apart(self):
        self.check(show_fault, None, *self.ROWS, take(1, 0, 1, SHOW), show(0, 1, "0"), show(1, 1, "0"),
                   show(0, 2, "7"))
        self.check(show_fault, ("order", 1, 2), *self.ROWS, take(1, 0, 1, both(SHOW, SHOW)), show(0, 1, "0"),
                   show(1, 2, "0"))
        self.check(show_fault, ("show", 1, 1), *self.ROWS, show(1, 1, "0"))

    def test_behind_an_undo(self):
        shows = [show(0, 1, "0"), show(0, 2, "7"), show(0, 3, "7")]
        for shown in range(4):
            for left in range(4):
                outputs = (0, 2, 2, 3)[left]
                fault = ("hidden", 0, left) if outputs < shown else None
                self.check(show_fault, fault, *self.ROWS, *shows[:shown], undo(0, left))
        # It is hidden at once, even if the same output comes again.
        self.check(show_fault, ("hidden", 0, 2), *self.ROWS, *shows, undo(0, 2), self.ROWS[2])
        self.check(show_fault, None, *self.ROWS, *shows[:2], undo(0, 1), take(0, 1, 2, SHOW), shows[2])
        self.check(show_fault, ("show", 0, 3), *self.ROWS, *shows[:2], undo(0, 1), take(0, 1, 2, ("show", 1)),
                   shows[2])
        self.check(show_fault, ("show", 0, 3), *self.ROWS, *shows[:2], undo(0, 2), shows[2])

    def test_an_undo_that_leaves_more_cuts_nothing(self):
        self.check(show_fault, None, *self.ROWS, show(0, 1, "0"), undo(0, 3), undo(0, 99), show(0, 2, "7"),
                   show(0, 3, "7"))

    def test_an_undo_of_another_process(self):
        self.check(show_fault, None, *self.ROWS, show(0, 1, "0"), undo(1, 0), show(0, 2, "7"))

    def test_the_machine_runs_the_payloads(self):
        payloads = [("set", 1, 5), ("copy", 0, 1), ("if", 0, both(("add", 0, -9), SHOW), ("show", 3)),
                    ("if", 2, SHOW, ("show", 1)), ("send", 0, SHOW)]
        rows = [take(4, 4, at + 1, payload) for at, payload in enumerate(payloads)]
        self.check(show_fault, None, *rows, show(4, 1, "-4"), show(4, 2, "5"))
        self.check(show_fault, ("show", 4, 3), *rows, show(4, 1, "-4"), show(4, 2, "5"), show(4, 3, "-4"))

    def test_the_cells_behind_an_undo(self):
        rows = [take(0, 1, 1, SET), take(0, 1, 2, ("set", 0, 3)), undo(0, 1), take(0, 1, 2, SHOW)]
        self.check(show_fault, None, *rows, show(0, 1, "7"))
        self.check(show_fault, ("show", 0, 1), *rows, show(0, 1, "3"))

    def test_the_first_one_of_several(self):
        self.check(show_fault, ("show", 2, 1), *self.ROWS, show(2, 1, "0"), show(0, 3, "0"))
        self.check(show_fault, ("order", 0, 3), *self.ROWS, show(0, 3, "0"), show(2, 1, "0"))


class Run(Checks):
    def test_a_send_with_this_number_to_this_process(self):
        rows = [take(1, DESK, 1, both(("send", 0, SHOW), ("send", 2, SET), ("send", 0, SET)))]
        self.check(run_fault, None, *rows, take(0, 1, 1, SHOW), take(0, 1, 2, SET), take(2, 1, 1, SET))
        self.check(run_fault, ("run", 0, 1, 1), *rows, take(0, 1, 1, SET))
        self.check(run_fault, ("run", 0, 1, 2), *rows, take(0, 1, 1, SHOW), take(0, 1, 2, SHOW))
        self.check(run_fault, ("run", 0, 1, 3), *rows, take(0, 1, 3, SHOW))
        self.check(run_fault, ("run", 2, 1, 2), *rows, take(2, 1, 2, SET))
        self.check(run_fault, ("run", 3, 1, 1), *rows, take(3, 1, 1, SHOW))

    def test_the_pasts_behind_the_last_event(self):
        sent, got = take(1, DESK, 1, ("send", 0, SHOW)), take(0, 1, 1, SHOW)
        fault = ("run", 0, 1, 1)
        self.check(run_fault, None, got, sent)
        self.check(run_fault, fault, sent, got, undo(1, 0))
        self.check(run_fault, None, sent, got, undo(1, 0), undo(0, 0))
        self.check(run_fault, None, sent, got, undo(1, 0), sent)
        self.check(run_fault, fault, sent, got, undo(1, 0), take(1, DESK, 1, ("send", 0, SET)))
        self.check(run_fault, fault, sent, got, undo(1, 0), take(1, DESK, 1, ("send", 2, SHOW)))
        self.check(run_fault, None, sent, got, undo(1, 1), undo(1, 5))

    def test_senders_that_never_took_anything(self):
        self.check(run_fault, ("run", 0, 1, 1), take(0, 1, 1, SHOW))
        self.check(run_fault, ("run", 99, 98, 1), take(99, 98, 1, SHOW))

    def test_sends_to_processes_that_never_took_anything(self):
        self.check(run_fault, None, take(0, DESK, 1, both(("send", 5, SHOW), ("send", 0, SET))))

    def test_sends_to_itself(self):
        rows = [take(0, DESK, 1, both(("send", 0, ("send", 0, SHOW)), ("send", 0, SET)))]
        self.check(run_fault, None, *rows, take(0, 0, 1, ("send", 0, SHOW)), take(0, 0, 2, SET),
                   take(0, 0, 3, SHOW))
        self.check(run_fault, ("run", 0, 0, 3), *rows, take(0, 0, 1, ("send", 0, SHOW)), take(0, 0, 2, SET),
                   take(0, 0, 3, SET))

    def test_the_desk_is_no_process(self):
        self.check(run_fault, None, take(0, DESK, 7, SHOW))

    def test_what_a_payload_sends_may_depend_on_the_cells(self):
        rows = [take(1, DESK, 1, ("set", 0, 1)), take(1, DESK, 2, ("if", 0, ("send", 0, SHOW), ("send", 0, SET)))]
        self.check(run_fault, None, *rows, take(0, 1, 1, SHOW))
        self.check(run_fault, ("run", 0, 1, 1), *rows[1:], take(0, 1, 1, SHOW))
        self.check(run_fault, None, *rows[1:], take(0, 1, 1, SET))

    def test_the_first_one_in_ascending_order(self):
        rows = [take(10, 1, 1, SHOW), take(9, 4, 1, SHOW), take(2, 3, 1, SHOW), take(2, 1, 1, SHOW),
                take(11, 1, 1, SHOW)]
        self.check(run_fault, ("run", 2, 3, 1), *rows)
        self.check(run_fault, ("run", 2, 1, 1), *rows, take(3, DESK, 1, ("send", 2, SHOW)))
        self.check(run_fault, ("run", 9, 4, 1), *rows, undo(2, 0))
        self.check(run_fault, ("run", 10, 1, 1), *rows, undo(2, 0), undo(9, 0))
        self.check(run_fault, ("run", 11, 1, 1), *rows, undo(2, 0), undo(9, 0), undo(10, 0))
        self.check(run_fault, None, *rows, undo(2, 0), undo(9, 0), undo(10, 0), undo(11, 0))


class Judge(Checks):
    def test_all_in_their_order(self):
        rows = [take(3, DESK, 2, SHOW), undo(2, 0), show(1, 2, "a"), take(0, 5, 1, SHOW)]
        faults = [("number", 3, DESK, 2), ("undo", 2, 0), ("order", 1, 2), ("run", 0, 5, 1)]
        self.check(judge, faults, *rows)
        self.check(judge, faults, *rows[::-1])
        self.check(judge, [("order", 1, 2), ("run", 0, 5, 1)], *rows[2:])
        self.check(judge, [("number", 3, DESK, 2), ("undo", 2, 0)], *rows[:2])
        self.check(judge, [("undo", 2, 0)], rows[1])

    def test_what_the_functions_say(self):
        for seed in range(200):
            rows = some_events(random.Random(seed))
            expected = [fault for fault in [function(rows) for function in FUNCTIONS] if fault is not None]
            self.check(judge, expected, *rows)

    def test_a_new_list_each_time(self):
        rows = [undo(0, 0)]
        judge(rows).clear()
        self.assertEqual(judge(rows), [("undo", 0, 0)])


def some_events(source):
    """Events that belong to no run, with processes from 0 to 99."""
    processes = source.choice(([0, 1], [0, 1, 2], [7, 98, 99]))
    found = []
    for _ in range(source.randint(1, 25)):
        process, kind = source.choice(processes), source.choice(["submit"] * 2 + ["take"] * 6 + ["undo", "show"])
        payload = some_payload(source, 3)
        if kind == "submit":
            found.append(submit(process, source.randint(1, 3), payload))
        elif kind == "take":
            found.append(take(process, source.choice([DESK] + processes), source.randint(1, 2), payload))
        elif kind == "undo":
            found.append(undo(process, source.randint(0, 3)))
        else:
            found.append(show(process, source.randint(1, 2), source.choice(["0", "0", "1"])))
    return found


class Model:
    """The judge, word by word: each past is worked out again at each question."""

    def past(self, events, process):
        rows = []
        for event in events:
            if event[0] == "take" and event[2] == process:
                rows.append(event[4:])
            if event[0] == "undo" and event[2] == process:
                rows = rows[:event[3]]
        return rows

    def results(self, events, process):
        cells, sends, outputs = START, [], []
        for _, _, payload in self.past(events, process):
            cells, more_sends, more_outputs = run(cells, payload)
            sends, outputs = sends + more_sends, outputs + more_outputs
        return sends, outputs

    def take_fault(self, events):
        for at, (kind, _, process, *rest) in enumerate(events):
            if kind == "take":
                _, sender, number, payload = rest
                taken = [row for row in self.past(events[:at], process) if row[0] == sender]
                if number != len(taken) + 1:
                    return ("number", process, sender, number)
                submits = [each[2:] for each in events[:at] if each[0] == "submit"]
                if sender == DESK and (process, number, payload) not in submits:
                    return ("desk", process, number)
        return None

    def undo_fault(self, events):
        for at, event in enumerate(events):
            if event[0] == "undo" and len(self.past(events[:at], event[2])) <= event[3]:
                return ("undo",) + event[2:]
        return None

    def show_fault(self, events):
        shown = []
        for at, event in enumerate(events):
            texts = [text for process, text in shown if process == event[2]]
            outputs = self.results(events[:at + 1], event[2])[1]
            if event[0] == "show":
                if event[3] != len(texts) + 1:
                    return ("order",) + event[2:4]
                if outputs[event[3] - 1:event[3]] != [event[4]]:
                    return ("show",) + event[2:4]
                shown.append((event[2], event[4]))
            if event[0] == "undo" and outputs[:len(texts)] != texts:
                return ("hidden",) + event[2:4]
        return None

    def run_fault(self, events):
        for process in range(100):
            for sender, number, payload in self.past(events, process):
                if sender != DESK:
                    sends = [sent for to, sent in self.results(events, sender)[0] if to == process]
                    if sends[number - 1:number] != [payload]:
                        return ("run", process, sender, number)
        return None


class Beside(Checks):
    def test_many_events(self):
        found = {}
        for seed in range(1500):
            rows = some_events(random.Random(seed))
            for length in (len(rows), len(rows) // 2):
                for function in FUNCTIONS:
                    expected = getattr(Model(), function.__name__)(rows[:length])
                    self.check(function, expected, *rows[:length])
                    kind = expected[0] if expected else function.__name__
                    found[kind] = found.get(kind, 0) + 1
        for kind in ("number", "desk", "undo", "order", "show", "run", "take_fault", "undo_fault",
                     "show_fault", "run_fault"):
            self.assertGreater(found[kind], 20)


class Home(unittest.TestCase):
    def test_each_function_is_defined_there(self):
        for name in ("take_fault", "undo_fault", "show_fault", "run_fault", "judge"):
            with self.subTest(name=name):
                self.assertEqual(getattr(module, name).__module__, "firmground.judge")
                getattr(module, name)(events=[])
