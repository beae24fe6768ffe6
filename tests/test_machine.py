"""Points 300 and 301: firmground.machine."""

import itertools
import unittest

from firmground import machine
from firmground.machine import START, run

CELLS = (5, -7, 0, 40)


class Run(unittest.TestCase):
    def check(self, payload, cells, sends=(), outputs=(), begin=CELLS):
        with self.subTest(payload=payload, begin=begin):
            found = run(begin, payload)
            self.assertEqual(found, (cells, list(sends), list(outputs)))
            self.assertEqual([type(part) for part in found], [tuple, list, list])
            self.assertIs(type(found[0]), tuple)

    def test_start(self):
        self.assertEqual(START, (0, 0, 0, 0))
        self.assertIs(type(START), tuple)

    def test_the_example_of_the_document(self):
        self.check(("both", ("add", 1, 5), ("both", ("show", 1), ("send", 2, ("show", 0)))),
                   (0, 5, 0, 0), [(2, ("show", 0))], ["5"], START)

    def test_set(self):
        for cell in range(4):
            for value in (0, 1, -1, 10 ** 6, -10 ** 6):
                self.check(("set", cell, value), CELLS[:cell] + (value,) + CELLS[cell + 1:])

    def test_add(self):
        for cell in range(4):
            for value in (0, 1, -1, 10 ** 6, -10 ** 6):
                self.check(("add", cell, value),
                           CELLS[:cell] + (CELLS[cell] + value,) + CELLS[cell + 1:])

    def test_cells_have_no_bounds(self):
        great = (10 ** 6, 0, -10 ** 30, 10 ** 30)
        self.check(("add", 0, 10 ** 6), (2 * 10 ** 6, 0, -10 ** 30, 10 ** 30), begin=great)
        self.check(("add", 2, -10 ** 6), (10 ** 6, 0, -10 ** 30 - 10 ** 6, 10 ** 30), begin=great)
        self.check(("both", ("show", 2), ("show", 3)), great, (),
                   ["-1" + "0" * 30, "1" + "0" * 30], great)

    def test_copy(self):
        for cell in range(4):
            for other in range(4):
                self.check(("copy", cell, other),
                           CELLS[:cell] + (CELLS[other],) + CELLS[cell + 1:])

    def test_send(self):
        for process in (0, 1, 9):
            for payload in (("show", 0), ("set", 0, 3), ("send", 2, ("send", 1, ("show", 1)))):
                self.check(("send", process, payload), CELLS, [(process, payload)])

    def test_a_payload_that_is_sent_is_not_run(self):
        inner = ("both", ("set", 0, 99), ("both", ("show", 0), ("send", 1, ("show", 1))))
        self.check(("send", 0, inner), CELLS, [(0, inner)])
        self.check(("both", ("send", 3, inner), ("show", 0)), CELLS, [(3, inner)], ["5"])

    def test_show(self):
        for cell, text in enumerate(["5", "-7", "0", "40"]):
            self.check(("show", cell), CELLS, (), [text])
        for cell in range(4):
            self.check(("show", cell), START, (), ["0"], START)

    def test_both_in_order(self):
        self.check(("both", ("set", 0, 3), ("add", 0, 4)), (7, -7, 0, 40))
        self.check(("both", ("add", 0, 4), ("set", 0, 3)), (3, -7, 0, 40))
        self.check(("both", ("set", 1, 3), ("copy", 2, 1)), (5, 3, 3, 40))
        self.check(("both", ("copy", 2, 1), ("set", 1, 3)), (5, 3, -7, 40))
        self.check(("both", ("show", 0), ("both", ("set", 0, 1), ("show", 0))), (1, -7, 0, 40),
                   (), ["5", "1"])
        self.check(("both", ("both", ("show", 0), ("set", 0, 1)), ("show", 0)), (1, -7, 0, 40),
                   (), ["5", "1"])

    def test_if_with_zero_and_with_other_values(self):
        for cell in range(4):
            payload = ("if", cell, ("set", 0, 11), ("set", 0, 22))
            value = 22 if cell == 2 else 11
            self.check(payload, (value,) + CELLS[1:])
        for value in (1, -1, 2, 10 ** 6, -10 ** 6, 10 ** 30):
            begin = (0, value, 0, 0)
            self.check(("if", 1, ("show", 1), ("show", 0)), begin, (), [str(value)], begin)
            self.check(("if", 0, ("show", 1), ("show", 0)), begin, (), ["0"], begin)

    def test_only_one_side_of_if_is_run(self):
        one = ("both", ("add", 3, 1), ("both", ("show", 3), ("send", 1, ("show", 0))))
        other = ("both", ("add", 3, 2), ("both", ("show", 0), ("send", 2, ("show", 0))))
        self.check(("if", 0, one, other), (5, -7, 0, 41), [(1, ("show", 0))], ["41"])
        self.check(("if", 2, one, other), (5, -7, 0, 42), [(2, ("show", 0))], ["5"])

    def test_if_looks_at_the_cell_when_it_is_run(self):
        test = ("if", 0, ("set", 3, 1), ("set", 3, 2))
        self.check(("both", ("set", 0, 0), test), (0, -7, 0, 2))
        self.check(("both", test, ("set", 0, 0)), (0, -7, 0, 1))

    def test_sends_and_outputs_in_order(self):
        steps = [("send", 1, ("show", 1)), ("show", 0), ("send", 0, ("show", 2)), ("show", 1),
                 ("send", 1, ("show", 3))]
        for order in itertools.permutations(steps):
            first, second, third, fourth, fifth = order
            sends = [step[1:] for step in order if step[0] == "send"]
            outputs = [str(CELLS[step[1]]) for step in order if step[0] == "show"]
            self.check(("both", first, ("both", second, ("both", third, ("both", fourth, fifth)))),
                       CELLS, sends, outputs)
            self.check(("both", ("both", first, second), ("both", ("if", 0, third, ("show", 2)),
                                                          ("both", fourth, fifth))),
                       CELLS, sends, outputs)

    def test_the_same_send_and_output_twice(self):
        send = ("send", 1, ("show", 0))
        self.check(("both", send, send), CELLS, [(1, ("show", 0))] * 2)
        self.check(("both", ("show", 3), ("show", 3)), CELLS, (), ["40", "40"])

    def test_nested_as_deeply_as_a_payload_may_be_and_deeper(self):
        for depth in (6, 7, 60):
            payload = ("add", 0, 1)
            for _ in range(depth - 1):
                payload = ("both", ("show", 0), ("if", 0, payload, ("add", 0, 2)))
            self.check(payload, (6, -7, 0, 40), (), ["5"] * (depth - 1))

    def test_a_full_tree(self):
        payload = ("add", 0, 1)
        for _ in range(5):
            payload = ("both", payload, payload)
        self.check(payload, (32, 0, 0, 0), begin=START)


class Apart(unittest.TestCase):
    def test_nothing_is_kept(self):
        payload = ("both", ("add", 0, 1), ("both", ("show", 0), ("send", 1, ("show", 0))))
        first = run(START, payload)
        first[1].clear()
        first[2].append("x")
        self.assertEqual(run(START, payload), ((1, 0, 0, 0), [(1, ("show", 0))], ["1"]))
        self.assertEqual(START, (0, 0, 0, 0))
        self.assertEqual(machine.START, (0, 0, 0, 0))

    def test_the_arguments_stay(self):
        cells = (1, 2, 3, 4)
        payload = ("both", ("set", 0, 9), ("copy", 1, 0))
        self.assertEqual(run(cells, payload)[0], (9, 9, 3, 4))
        self.assertEqual(cells, (1, 2, 3, 4))
        self.assertEqual(payload, ("both", ("set", 0, 9), ("copy", 1, 0)))

    def test_one_run_after_the_other(self):
        cells = START
        for value in range(1, 6):
            cells, _, outputs = run(cells, ("both", ("add", 2, value), ("show", 2)))
        self.assertEqual((cells, outputs), ((0, 0, 15, 0), ["15"]))


class Home(unittest.TestCase):
    def test_run_is_defined_there(self):
        self.assertEqual(run.__module__, "firmground.machine")

    def test_arguments_by_name(self):
        self.assertEqual(run(cells=START, payload=("show", 0)), (START, [], ["0"]))
