"""Points 701 to 705: firmground.desk."""

import unittest

from firmground import desk as module
from firmground.clocks import zero
from firmground.desk import Desk
from firmground.errors import BadPayload, BadProcess
from firmground.letters import check_letter
from tests.making import DESK, SHOW, both, clock
from tests.values import Touchy, deep_tuple, other_kinds

MOST = 10 ** 12
METHODS = ("submit", "receive", "tick", "submitted", "got", "shown")
NO_PROCESS = [True, False, "0", None, -1, 2, 3, 11, 10 ** 30, 0.0, 1.0]


def a_pass(count, process, number, payload):
    return (process, ("pass", DESK, number, payload, zero(count)))


def everything(desk, count):
    """All that can be asked of a desk, in lists that are not the desk's own in any case."""
    return [(desk.submitted(each)[:], desk.got(each), desk.shown(each)[:]) for each in range(count)]


def filled(*numbers):
    """A desk with so many payloads for each process, and all that it has sent."""
    desk = Desk(len(numbers))
    for process, many in enumerate(numbers):
        for value in range(many):
            desk.submit(process, ("set", 0, value))
    return desk


def told(letters):
    """Of each letter the receiver and the number."""
    return [(receiver, letter[2]) for receiver, letter in letters]


class Submit(unittest.TestCase):
    def test_the_example_of_the_document(self):
        desk = Desk(2)
        self.assertEqual(desk.submit(1, ("show", 0)),
                         [(1, ("pass", -1, 1, ("show", 0), ((0, 0), (0, 0))))])
        self.assertEqual(desk.receive(("show", 1, 1, "0")), [(1, ("seen", -1, 1))])
        self.assertEqual((desk.shown(1), desk.got(1)), (["0"], 0))

    def test_a_new_desk(self):
        for count in (1, 2, 10):
            desk = Desk(count)
            self.assertEqual(everything(desk, count), [([], 0, [])] * count)
            self.assertEqual(desk.tick(), [])

    def test_numbers_for_each_process(self):
        desk = Desk(3)
        numbers = {0: 0, 1: 0, 2: 0}
        for at, process in enumerate([1, 1, 0, 2, 1, 0, 0, 1]):
            payload = ("set", 1, at)
            numbers[process] += 1
            self.assertEqual(desk.submit(process, payload),
                             [a_pass(3, process, numbers[process], payload)])
            self.assertEqual(desk.submitted(process)[-1], payload)
            self.assertEqual(len(desk.submitted(process)), numbers[process])
        self.assertEqual(desk.submitted(1), [("set", 1, at) for at in (0, 1, 4, 7)])
        self.assertEqual(desk.submitted(0), [("set", 1, at) for at in (2, 5, 6)])
        self.assertEqual(desk.submitted(2), [("set", 1, 3)])

    def test_the_same_payload_twice(self):
        desk = Desk(1)
        desk.submit(0, SHOW)
        self.assertEqual(desk.submit(0, SHOW), [a_pass(1, 0, 2, SHOW)])
        self.assertEqual(desk.submitted(0), [SHOW, SHOW])

    def test_its_letters_are_letters(self):
        for count in (1, 4, 10):
            desk = Desk(count)
            for process in range(count):
                [(receiver, letter)] = desk.submit(process, ("send", count - 1, SHOW))
                self.assertEqual(check_letter(count, receiver, letter), letter)
                self.assertEqual(receiver, process)

    def refuse(self, error, desk, process, payload):
        try:
            desk.submit(process, payload)
        except error:
            return
        self.fail("it was submitted")

    def test_no_process(self):
        desk = Desk(2)
        for process in NO_PROCESS + other_kinds():
            for payload in (SHOW, ("show", 4), None):
                self.refuse(BadProcess, desk, process, payload)
        self.assertEqual(everything(desk, 2), [([], 0, [])] * 2)
        self.assertEqual(desk.tick(), [])

    def test_no_payload(self):
        desk = Desk(2)
        for payload in other_kinds() + [0, "show", ("show", 4), ("send", 2, SHOW), ("set", 0, 10 ** 6 + 1),
                                        deep_tuple("both", 6), deep_tuple("both", 2000), ("show", True),
                                        (Touchy(), 0), ("show", Touchy()), ["show", 0]]:
            self.refuse(BadPayload, desk, 0, payload)
        self.assertEqual((everything(desk, 2), desk.tick()), ([([], 0, [])] * 2, []))
        self.assertEqual(desk.submit(0, SHOW), [a_pass(2, 0, 1, SHOW)])

    def test_the_process_comes_first(self):
        self.refuse(BadProcess, Desk(2), 2, ("show", 4))
        self.refuse(BadPayload, Desk(3), 2, ("show", 4))


class Got(unittest.TestCase):
    def test_less_equal_and_more(self):
        for number, expected in ((1, 1), (4, 4), (5, 5), (6, 5), (MOST, 5)):
            desk = filled(2, 5)
            self.assertEqual(desk.receive(("got", 1, number)), [])
            self.assertEqual((desk.got(1), desk.got(0)), (expected, 0))
            self.assertEqual(told(desk.tick()), [(0, 1), (0, 2)]
                             + [(1, number) for number in range(expected + 1, 6)])

    def test_numbers_that_rise_are_equal_and_fall(self):
        desk = filled(5)
        for number, expected in ((2, 2), (2, 2), (1, 2), (4, 4), (3, 4), (9, 5), (1, 5)):
            self.assertEqual(desk.receive(("got", 0, number)), [])
            self.assertEqual(desk.got(0), expected)

    def test_more_than_was_submitted_is_not_kept_for_later(self):
        desk = filled(2)
        desk.receive(("got", 0, 5))
        desk.submit(0, SHOW)
        self.assertEqual((desk.got(0), told(desk.tick())), (2, [(0, 3)]))
        desk = Desk(1)
        desk.receive(("got", 0, 5))
        self.assertEqual(desk.got(0), 0)
        desk.submit(0, SHOW)
        self.assertEqual((desk.got(0), told(desk.tick())), (0, [(0, 1)]))

    def test_it_touches_nothing_else(self):
        desk = filled(3, 3)
        desk.receive(("show", 0, 1, "a"))
        desk.receive(("got", 0, 2))
        self.assertEqual((desk.shown(0), len(desk.submitted(0)), desk.got(1)), (["a"], 3, 0))


class Show(unittest.TestCase):
    def test_the_next_number_an_earlier_and_a_later_one(self):
        desk = Desk(2)
        for number, text, texts in ((2, "b", []), (5, "e", []), (1, "a", ["a"]), (1, "x", ["a"]),
                                    (3, "c", ["a"]), (2, "b", ["a", "b"]), (1, "a", ["a", "b"]),
                                    (2, "y", ["a", "b"]), (4, "d", ["a", "b"]), (3, "", ["a", "b", ""]),
                                    (MOST, "z", ["a", "b", ""])):
            self.assertEqual(desk.receive(("show", 1, number, text)), [(1, ("seen", DESK, len(texts)))])
            self.assertEqual((desk.shown(1), desk.shown(0)), (texts, []))

    def test_processes_are_apart(self):
        desk = Desk(3)
        self.assertEqual(desk.receive(("show", 2, 1, "a")), [(2, ("seen", DESK, 1))])
        self.assertEqual(desk.receive(("show", 0, 2, "b")), [(0, ("seen", DESK, 0))])
        self.assertEqual(desk.receive(("show", 0, 1, "c")), [(0, ("seen", DESK, 1))])
        self.assertEqual([desk.shown(each) for each in range(3)], [["c"], [], ["a"]])

    def test_its_answers_are_letters(self):
        desk = Desk(2)
        for number in (2, 1, 1):
            [(receiver, letter)] = desk.receive(("show", 1, number, "a"))
            self.assertEqual(check_letter(2, receiver, letter), letter)


class Refused(unittest.TestCase):
    def test_letters_that_are_not_for_the_desk(self):
        desk = filled(2, 2)
        desk.receive(("show", 0, 1, "a"))
        desk.receive(("got", 1, 1))
        before, letters = everything(desk, 2), desk.tick()
        for letter in [
                ("pass", DESK, 1, SHOW, zero(2)), ("pass", 0, 1, SHOW, clock(2, p0=(0, 1))),
                ("end", 0, 0, 0), ("heard", 0, 1), ("firm", 1, 0, 1), ("seen", DESK, 1), ("seen", 0, 1),
                ("got", DESK, 1), ("got", 2, 1), ("got", 0, 0), ("got", 0, -1), ("got", 0, MOST + 1),
                ("got", 0, True), ("got", True, 1), ("got", 0), ("got", 0, 1, 1), ("got", "0", 1),
                ("show", DESK, 1, "b"), ("show", 2, 1, "b"), ("show", 0, 0, "b"), ("show", 0, "2", "b"),
                ("show", 0, 2), ("show", 0, 2, "b", 1), ("show", 0, 2, "b" * 41), ("show", 0, 2, "\n"),
                ("show", 0, 2, 5), ("show", 0, 2, None), ("show", 0, MOST + 1, "b"), ["show", 0, 2, "b"],
                ("other", 0, 2), (), ("show",), (1, 0, 2, "b")] + other_kinds():
            found = desk.receive(letter)
            self.assertIs(type(found), list)
            self.assertEqual(len(found), 0)
            found.append("x")
            self.assertEqual(everything(desk, 2), before)
        self.assertEqual(desk.tick(), letters)


class Tick(unittest.TestCase):
    def test_so_many_for_each_process(self):
        desk = filled(0, 1, 16, 17, 40)
        expected = [(process, number) for process, many in enumerate((0, 1, 16, 16, 16))
                    for number in range(1, many + 1)]
        for _ in range(3):
            self.assertEqual(told(desk.tick()), expected)
        for receiver, letter in desk.tick():
            self.assertEqual((receiver, letter),
                             a_pass(5, receiver, letter[2], ("set", 0, letter[2] - 1)))

    def test_those_that_are_not_got(self):
        for got, expected in ((1, range(2, 18)), (23, range(24, 40)), (24, range(25, 41)),
                              (25, range(26, 41)), (39, range(40, 41)), (40, range(0))):
            desk = filled(40, 1)
            desk.receive(("got", 0, got))
            self.assertEqual(told(desk.tick()), [(0, number) for number in expected] + [(1, 1)])

    def test_in_ascending_order_of_the_processes(self):
        desk = Desk(10)
        for process in (7, 3, 9, 0):
            for _ in range(2):
                desk.submit(process, SHOW)
        self.assertEqual(told(desk.tick()), [(0, 1), (0, 2), (3, 1), (3, 2), (7, 1), (7, 2), (9, 1), (9, 2)])

    def test_outputs_are_not_sent(self):
        desk = Desk(1)
        desk.receive(("show", 0, 1, "a"))
        self.assertEqual(desk.tick(), [])


class Returned(unittest.TestCase):
    def test_lists_may_be_changed(self):
        desk = filled(2, 2)
        desk.receive(("show", 0, 1, "a"))
        before, letters = everything(desk, 2), desk.tick()
        for found in (desk.submitted(0), desk.shown(0), desk.shown(1), desk.tick(),
                      desk.receive(("show", 0, 1, "a")), desk.receive(("got", 0, 0))):
            self.assertIs(type(found), list)
            found.append("x")
            found[0] = "y"
            found.clear()
        self.assertEqual((everything(desk, 2), desk.tick()), (before, letters))
        desk.submit(0, SHOW).clear()
        self.assertEqual(len(desk.submitted(0)), 3)

    def test_desks_are_apart(self):
        one, other = filled(1), Desk(1)
        one.receive(("show", 0, 1, "a"))
        self.assertEqual(everything(other, 1), [([], 0, [])])

    def test_an_argument_is_not_changed(self):
        payload = both(SHOW, ("send", 0, SHOW))
        Desk(1).submit(0, payload)
        self.assertEqual(payload, both(SHOW, ("send", 0, SHOW)))


class Home(unittest.TestCase):
    def test_constants(self):
        self.assertEqual(module.WINDOW, 16)

    def test_each_method_is_defined_in_the_class(self):
        self.assertEqual(Desk.__module__, "firmground.desk")
        for name in METHODS:
            with self.subTest(name=name):
                self.assertIn(name, vars(Desk))

    def test_arguments_by_name(self):
        desk = Desk(count=1)
        self.assertEqual(len(desk.submit(process=0, payload=SHOW)), 1)
        self.assertEqual(desk.receive(letter=("got", 0, 1)), [])
        self.assertEqual((desk.submitted(process=0), desk.got(process=0), desk.shown(process=0)),
                         ([SHOW], 1, []))

    def test_processes_somewhat_beyond_the_group(self):
        desk = Desk(2)
        for process in (2, 10, 11):
            self.assertEqual((desk.submitted(process), desk.got(process), desk.shown(process)), ([], 0, []))
