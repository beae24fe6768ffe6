"""Point 706: firmground.net."""

import itertools
import unittest

from firmground.errors import BadSchedule
from firmground.net import Net
from tests.values import other_kinds

METHODS = ("send", "take", "double", "move", "packets")
PACKETS = [(0, 1, ("got", 0, 1)), (-1, 0, ("seen", -1, 2)), (1, -1, ("show", 1, 1, "a")), (1, 1, ("got", 1, 1))]


def filled(many=4):
    net = Net()
    for packet in PACKETS[:many]:
        net.send(*packet)
    return net


class Packets(unittest.TestCase):
    def test_an_empty_network(self):
        self.assertEqual(Net().packets(), [])

    def test_send_appends(self):
        net = Net()
        for many, packet in enumerate(PACKETS + PACKETS):
            self.assertIsNone(net.send(*packet))
            self.assertEqual(net.packets(), (PACKETS + PACKETS)[:many + 1])
            self.assertIs(type(net.packets()[-1]), tuple)

    def test_take_at_each_position(self):
        for position in range(4):
            net = filled()
            self.assertEqual(net.take(position), PACKETS[position])
            self.assertEqual(net.packets(), PACKETS[:position] + PACKETS[position + 1:])
        net = filled()
        self.assertEqual([net.take(0) for _ in range(4)], PACKETS)
        self.assertEqual(net.packets(), [])

    def test_double_at_each_position(self):
        for position in range(4):
            net = filled()
            self.assertIsNone(net.double(position))
            self.assertEqual(net.packets(), PACKETS + [PACKETS[position]])

    def test_move_at_each_position(self):
        for position in range(4):
            net = filled()
            self.assertIsNone(net.move(position))
            self.assertEqual(net.packets(), PACKETS[:position] + PACKETS[position + 1:] + [PACKETS[position]])

    def test_a_single_packet(self):
        net = filled(1)
        net.move(0)
        self.assertEqual(net.packets(), PACKETS[:1])
        net.double(0)
        self.assertEqual(net.packets(), PACKETS[:1] * 2)
        self.assertEqual((net.take(1), net.take(0), net.packets()), (PACKETS[0], PACKETS[0], []))

    def test_the_list_is_a_new_one(self):
        net = filled()
        found = net.packets()
        found.append("x")
        found[0] = "y"
        self.assertEqual(net.packets(), PACKETS)
        net.packets().clear()
        self.assertEqual(net.take(0), PACKETS[0])
        empty = Net()
        empty.packets().append("x")
        self.assertEqual(empty.packets(), [])

    def test_networks_are_apart(self):
        filled()
        self.assertEqual(Net().packets(), [])

    def test_all_short_runs(self):
        steps = [("send", 0), ("send", 1), ("take", 0), ("take", 1), ("double", 0), ("double", 1),
                 ("move", 0), ("move", 1)]
        for run in itertools.product(steps, repeat=4):
            net, model = filled(2), list(PACKETS[:2])
            for name, at in run:
                if name == "send":
                    net.send(*PACKETS[at + 2])
                    model.append(PACKETS[at + 2])
                elif at < len(model):
                    getattr(net, name)(at)
                    packet = model[at]
                    model = model if name == "double" else model[:at] + model[at + 1:]
                    model = model if name == "take" else model + [packet]
                self.assertEqual(net.packets(), model)


class Refused(unittest.TestCase):
    def refuse(self, many, position):
        for name in ("take", "double", "move"):
            net = filled(many)
            try:
                getattr(net, name)(position)
            except BadSchedule as error:
                self.assertEqual((error.line, error.reason), (0, "position"))
            else:
                self.fail(f"{name} was not refused")
            self.assertEqual(net.packets(), PACKETS[:many])

    def test_no_packet_there(self):
        for many in range(5):
            for position in (-1, -many - 1, many, many + 1, 10 ** 12, 10 ** 40, -10 ** 40):
                self.refuse(many, position)

    def test_an_empty_network(self):
        for position in (0, 1, -1):
            self.refuse(0, position)

    def test_no_integer(self):
        for position in other_kinds() + ["0", 0.0, True]:
            self.refuse(4, position)


class Home(unittest.TestCase):
    def test_each_method_is_defined_in_the_class(self):
        self.assertEqual(Net.__module__, "firmground.net")
        for name in METHODS:
            with self.subTest(name=name):
                self.assertIn(name, vars(Net))

    def test_arguments_by_name(self):
        net = Net()
        net.send(sender=0, receiver=1, letter=("got", 0, 1))
        net.double(position=0)
        net.move(position=0)
        self.assertEqual(net.take(position=1), PACKETS[0])
