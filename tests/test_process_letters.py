"""Points 606 to 612: the letters that a process takes."""

import unittest

from firmground.clocks import zero
from firmground.errors import BadLetter
from firmground.letters import check_letter
from tests.making import DESK, SHOW, both, clock, desk_pass, firm_told, fresh, given, looks, many
from tests.values import Touchy, deep_tuple, other_kinds

MOST = 10 ** 12


def pass_from(sender, number, pair, payload=SHOW, count=3, **pairs):
    """An input of a process, with its pair and those of others."""
    return ("pass", sender, number, payload, clock(count, **{f"p{sender}": pair}, **pairs))


def taken(process):
    """Of each input its sender, number and version."""
    return [(row[0], row[1], row[4]) for row in process.inputs()]


class Refused(unittest.TestCase):
    def refuse(self, letter):
        """A letter without any effect, on a process that has something of everything."""
        process, tape = fresh(0, 3)
        given(process, desk_pass(3, 1, both(SHOW, ("send", 1, SHOW), ("send", 0, SHOW))),
              ("end", 1, 0, 4), pass_from(2, 1, (0, 5)))
        process.tick()
        before = looks(process, tape, 3)
        found = process.receive(letter)
        self.assertIs(type(found), list)
        self.assertEqual(len(found), 0)
        found.append("x")
        self.assertEqual(looks(process, tape, 3), before)
        self.assertEqual(len(process.receive(letter)), 0)
        # Nor has it left a trace for the next tick.
        other, _ = fresh(0, 3)
        given(other, desk_pass(3, 1, both(SHOW, ("send", 1, SHOW), ("send", 0, SHOW))),
              ("end", 1, 0, 4), pass_from(2, 1, (0, 5)))
        other.tick()
        self.assertEqual(process.tick(), other.tick())

    def test_values_that_are_no_letters(self):
        for letter in other_kinds() + [0, 1, "pass", "", ("pass",), ("got", 1), ("seen",)]:
            self.refuse(letter)
        for letter in (Touchy(), deep_tuple("pass", 2000), (Touchy(), 1, 2), ("got", Touchy(), 2),
                       ["got", 1, 1], (1, "got", 1), ("end", [1], 1, 1)):
            self.refuse(letter)

    def test_each_letter_that_check_letter_refuses(self):
        good = [desk_pass(3, 2, SHOW), pass_from(1, 1, (0, 3)), ("got", 1, 1), ("got", 0, 1),
                ("end", 1, 1, 2), ("heard", 1, 1), ("firm", 1, 1, 2), ("seen", DESK, 1)]
        for letter in good:
            self.assertEqual(check_letter(3, 0, letter), letter)
            for at in range(len(letter)):
                for item in (None, True, "1", -2, 3.0, MOST + 1, (), "x"):
                    changed = letter[:at] + (item,) + letter[at + 1:]
                    with self.assertRaises(BadLetter):
                        check_letter(3, 0, changed)
                    self.refuse(changed)
            self.refuse(letter[:-1])
            self.refuse(letter + (0,))

    def test_senders_that_do_not_fit_the_receiver(self):
        for letter in (("end", 0, 0, 0), ("heard", 0, 1), ("firm", 0, 0, 1), ("show", 0, 1, "0"),
                       ("show", 1, 1, "0"), ("seen", 1, 1), ("seen", 0, 1), ("got", DESK, 1),
                       ("end", DESK, 0, 0), ("heard", DESK, 1), ("firm", DESK, 0, 1),
                       ("end", 3, 0, 0), ("got", 3, 1), ("firm", 7, 0, 0), ("heard", -2, 0)):
            self.refuse(letter)

    def test_numbers_and_clocks_that_are_none(self):
        for letter in (("got", 1, 0), desk_pass(3, 0, SHOW), ("pass", DESK, 2, SHOW, clock(3, p1=(0, 1))),
                       ("pass", 1, 1, SHOW, zero(3)), ("pass", 1, 1, SHOW, clock(3, p2=(0, 1))),
                       ("pass", DESK, 2, SHOW, zero(2)), ("pass", DESK, 2, ("send", 3, SHOW), zero(3)),
                       ("pass", 1, 1, SHOW, clock(3, p1=(0, 1), p2=(1, 0))),
                       ("end", 1, -1, 0), ("end", 1, 1, -1), ("firm", 1, 0, MOST + 1)):
            self.refuse(letter)


class Pass(unittest.TestCase):
    def test_the_next_number(self):
        process, tape = fresh(0, 3)
        for letter, record in ((desk_pass(3, 1, ("set", 1, 5)), (DESK, 1, ("set", 1, 5), zero(3))),
                               (pass_from(1, 1, (0, 2)), (1, 1, SHOW, clock(3, p1=(0, 2)))),
                               (desk_pass(3, 2, SHOW), (DESK, 2, SHOW, zero(3))),
                               (pass_from(1, 2, (0, 2)), (1, 2, SHOW, clock(3, p1=(0, 2)))),
                               (pass_from(2, 1, (0, 9)), (2, 1, SHOW, clock(3, p2=(0, 9)))),
                               (pass_from(0, 1, (0, 1)), (0, 1, SHOW, clock(3, p0=(0, 1))))):
            pending = tape.pending()
            self.assertEqual(process.receive(letter), [])
            self.assertEqual(tape.records()[-1], ("input",) + record)
            self.assertEqual(tape.pending(), pending + 1)
            self.assertEqual(process.inputs()[-1], record + (0,))
        self.assertEqual(len(process.inputs()), 6)
        self.assertEqual(process.clock(), ((0, 6), (0, 2), (0, 9)))
        self.assertEqual(process.cells(), (0, 5, 0, 0))
        self.assertEqual(process.outputs(), ["0"] * 5)

    def test_a_later_number(self):
        process, tape = fresh(0, 3)
        for letter in (desk_pass(3, 2, SHOW), desk_pass(3, MOST, SHOW), pass_from(1, 2, (0, 1))):
            before = looks(process, tape, 3)
            self.assertEqual(process.receive(letter), [])
            self.assertEqual(looks(process, tape, 3), before)
        process.receive(desk_pass(3, 1, SHOW))
        for number, expected in ((3, 1), (2, 2), (4, 2), (3, 3), (4, 4)):
            process.receive(desk_pass(3, number, SHOW))
            self.assertEqual(len(process.inputs()), expected)

    def test_the_numbers_of_each_sender_are_apart(self):
        process, _ = fresh(0, 3)
        given(process, desk_pass(3, 1, SHOW), desk_pass(3, 2, SHOW), pass_from(1, 3, (0, 1)),
              pass_from(2, 1, (0, 1)), pass_from(1, 1, (0, 1)), pass_from(2, 2, (0, 1)))
        self.assertEqual(taken(process), [(DESK, 1, 0), (DESK, 2, 0), (2, 1, 0), (1, 1, 0), (2, 2, 0)])

    def test_taken_and_not_committed(self):
        process, tape = fresh(0, 3)
        given(process, desk_pass(3, 1, SHOW), desk_pass(3, 2, SHOW), pass_from(1, 1, (0, 5)))
        before = looks(process, tape, 3)
        for letter in (desk_pass(3, 1, SHOW), desk_pass(3, 2, ("show", 1)), pass_from(1, 1, (0, 5))):
            self.assertEqual(process.receive(letter), [])
            self.assertEqual(looks(process, tape, 3), before)

    def test_taken_and_committed(self):
        process, tape = fresh(0, 3)
        given(process, desk_pass(3, 1, SHOW), desk_pass(3, 2, SHOW), pass_from(1, 1, (0, 5)),
              desk_pass(3, 3, SHOW), pass_from(0, 1, (0, 1)))
        process.flush()
        process.tick()
        self.assertEqual(process.committed(), 2)
        before = looks(process, tape, 3)
        for letter, expected in ((desk_pass(3, 1, SHOW), [(DESK, ("got", 0, 2))]),
                                 (desk_pass(3, 2, SHOW), [(DESK, ("got", 0, 2))]),
                                 (desk_pass(3, 2, ("show", 3)), [(DESK, ("got", 0, 2))]),
                                 (desk_pass(3, 3, SHOW), []), (pass_from(1, 1, (0, 5)), []),
                                 (pass_from(0, 1, (0, 1)), [])):
            self.assertEqual(process.receive(letter), expected)
            self.assertEqual(looks(process, tape, 3), before)
        process.receive(("firm", 1, 0, 5))
        self.assertEqual(process.committed(), 5)
        for letter, expected in ((desk_pass(3, 1, SHOW), [(DESK, ("got", 0, 3))]),
                                 (desk_pass(3, 3, SHOW), [(DESK, ("got", 0, 3))]),
                                 (pass_from(1, 1, (0, 5)), [(1, ("got", 0, 1))]),
                                 (pass_from(0, 1, (0, 1)), [(0, ("got", 0, 1))]),
                                 (pass_from(2, 1, (0, 1)), [])):
            self.assertEqual(process.receive(letter), expected)

    def test_committed_comes_before_the_clock(self):
        process, _ = fresh(0, 3)
        given(process, pass_from(1, 1, (0, 2)), ("firm", 1, 0, 2))
        process.flush()
        process.tick()
        self.assertEqual(process.committed(), 1)
        given(process, ("end", 1, 0, 4))
        for pair in ((0, 2), (0, 9), (7, 1)):
            self.assertEqual(process.receive(pass_from(1, 1, pair)), [(1, ("got", 0, 1))])

    def test_a_clock_that_is_not_ready(self):
        process, tape = fresh(0, 3)
        late = [pass_from(1, 1, (1, 6)), pass_from(1, 1, (0, 3), p2=(2, 1)),
                pass_from(1, 1, (0, 3), p0=(1, 1))]
        for letter in late:
            before = looks(process, tape, 3)
            self.assertEqual(process.receive(letter), [])
            self.assertEqual(looks(process, tape, 3), before)
        process.receive(("end", 2, 0, 0))
        self.assertEqual((process.receive(late[0]), process.inputs()), ([], []))
        self.assertEqual((process.receive(late[1]), process.inputs()), ([], []))
        process.receive(("end", 1, 0, 5))
        process.receive(late[0])
        self.assertEqual(taken(process), [(1, 1, 0)])
        self.assertEqual(process.clock(), ((0, 1), (1, 6), (0, 0)))

    def test_a_clock_that_is_dead(self):
        process, tape = fresh(0, 3)
        given(process, ("end", 1, 0, 5), ("end", 2, 0, 3))
        for letter in (pass_from(1, 1, (0, 6)), pass_from(1, 1, (0, 5), p2=(0, 4)),
                       pass_from(2, 1, (0, 4)), pass_from(2, 1, (0, 1), p1=(0, 9))):
            before = looks(process, tape, 3)
            self.assertEqual(process.receive(letter), [])
            self.assertEqual(looks(process, tape, 3), before)
        given(process, pass_from(1, 1, (0, 5), p2=(0, 3)), pass_from(2, 1, (1, 4)))
        self.assertEqual(taken(process), [(1, 1, 0), (2, 1, 0)])

    def test_a_clock_that_is_dead_and_not_ready(self):
        process, tape = fresh(0, 3)
        process.receive(("end", 1, 0, 5))
        before = looks(process, tape, 3)
        self.assertEqual(process.receive(pass_from(1, 1, (0, 6), p2=(1, 1))), [])
        self.assertEqual(process.receive(pass_from(2, 1, (3, 1), p1=(0, 6))), [])
        self.assertEqual(looks(process, tape, 3), before)
        process.receive(("end", 2, 0, 9))
        self.assertEqual(process.receive(pass_from(1, 1, (0, 6), p2=(1, 1))), [])
        self.assertEqual(process.inputs(), [])

    def test_in_the_version_of_the_process(self):
        process, _ = fresh(0, 3)
        given(process, desk_pass(3, 1, SHOW), pass_from(1, 1, (0, 9)), ("end", 1, 0, 3),
              desk_pass(3, 2, SHOW), pass_from(1, 1, (1, 4)), ("end", 1, 1, 3), pass_from(1, 1, (0, 2)))
        self.assertEqual(taken(process), [(DESK, 1, 0), (DESK, 2, 1), (1, 1, 2)])
        self.assertEqual(process.clock(), ((2, 3), (0, 2), (0, 0)))


class Sends(unittest.TestCase):
    def test_to_others_and_to_itself(self):
        process, _ = fresh(0, 3)
        payload = both(("send", 1, ("set", 0, 1)), ("send", 0, ("set", 0, 2)),
                       ("send", 2, ("set", 0, 3)), ("send", 1, ("set", 0, 4)))
        at = clock(3, p0=(0, 1))
        self.assertEqual(process.receive(desk_pass(3, 1, payload)), [
            (1, ("pass", 0, 1, ("set", 0, 1), at)), (0, ("pass", 0, 1, ("set", 0, 2), at)),
            (2, ("pass", 0, 1, ("set", 0, 3), at)), (1, ("pass", 0, 2, ("set", 0, 4), at))])
        at = ((0, 2), (0, 7), (0, 0))
        self.assertEqual(process.receive(pass_from(1, 1, (0, 7), payload)), [
            (1, ("pass", 0, 3, ("set", 0, 1), at)), (0, ("pass", 0, 2, ("set", 0, 2), at)),
            (2, ("pass", 0, 2, ("set", 0, 3), at)), (1, ("pass", 0, 4, ("set", 0, 4), at))])

    def test_the_sends_of_the_new_state_only(self):
        process, _ = fresh(0, 2)
        process.receive(desk_pass(2, 1, ("send", 1, SHOW)))
        self.assertEqual(process.receive(desk_pass(2, 2, SHOW)), [])
        self.assertEqual(process.receive(desk_pass(2, 3, ("send", 1, ("show", 2)))),
                         [(1, ("pass", 0, 2, ("show", 2), clock(2, p0=(0, 3))))])

    def test_what_is_sent_is_not_run(self):
        process, _ = fresh(0, 2)
        letters = process.receive(desk_pass(2, 1, ("send", 0, ("send", 1, ("set", 0, 5)))))
        self.assertEqual((len(letters), process.cells()), (1, (0, 0, 0, 0)))
        receiver, letter = letters[0]
        self.assertEqual((receiver, letter[3]), (0, ("send", 1, ("set", 0, 5))))
        self.assertEqual(process.receive(letter),
                         [(1, ("pass", 0, 1, ("set", 0, 5), clock(2, p0=(0, 2))))])

    def test_as_many_as_one_payload_can_make(self):
        process, _ = fresh(0, 2)
        for first, pair in ((1, (0, 1)), (17, (0, 2))):
            letters = process.receive(desk_pass(2, pair[1], many(("send", 1, SHOW), 4)))
            at = clock(2, p0=pair)
            self.assertEqual(letters, [(1, ("pass", 0, number, SHOW, at))
                                       for number in range(first, first + 16)])

    def test_what_is_got_is_sent_as_well(self):
        process, _ = fresh(0, 2)
        process.receive(("got", 1, 5))
        self.assertEqual(len(process.receive(desk_pass(2, 1, ("send", 1, SHOW)))), 1)

    def test_numbers_behind_an_undo(self):
        process, _ = fresh(0, 2)
        given(process, desk_pass(2, 1, ("send", 1, SHOW)),
              ("pass", 1, 1, ("send", 1, ("show", 1)), clock(2, p1=(0, 9))), ("end", 1, 0, 4))
        self.assertEqual(process.receive(desk_pass(2, 2, ("send", 1, ("show", 2)))),
                         [(1, ("pass", 0, 2, ("show", 2), clock(2, p0=(1, 2))))])

    def test_a_letter_for_each_kind_of_receiver_is_one(self):
        process, _ = fresh(2, 4)
        payload = both(*[("send", each, SHOW) for each in (3, 0, 2, 1)])
        letters = process.receive(desk_pass(4, 1, payload))
        self.assertEqual([receiver for receiver, _ in letters], [3, 0, 2, 1])
        for receiver, letter in letters:
            self.assertEqual(check_letter(4, receiver, letter), letter)


class Got(unittest.TestCase):
    def sent(self, count=5):
        process, _ = fresh(0, 3)
        for number in range(1, count + 1):
            process.receive(desk_pass(3, number, both(("send", 1, SHOW), ("send", 0, SHOW))))
        return process

    def numbers(self, process, receiver):
        return [letter[2] for to, letter in process.tick() if to == receiver and letter[0] == "pass"]

    def test_numbers_that_rise_are_equal_and_fall(self):
        process = self.sent()
        self.assertEqual(self.numbers(process, 1), [1, 2, 3, 4, 5])
        for number, left in ((1, [2, 3, 4, 5]), (3, [4, 5]), (3, [4, 5]), (2, [4, 5]), (1, [4, 5]),
                             (4, [5]), (5, []), (1, [])):
            self.assertEqual(process.receive(("got", 1, number)), [])
            self.assertEqual(self.numbers(process, 1), left)
            self.assertEqual(self.numbers(process, 0), [1, 2, 3, 4, 5])

    def test_by_the_own_process(self):
        process = self.sent()
        self.assertEqual(process.receive(("got", 0, 4)), [])
        self.assertEqual(self.numbers(process, 0), [5])
        process.receive(("got", 0, 2))
        self.assertEqual(self.numbers(process, 0), [5])
        self.assertEqual(self.numbers(process, 1), [1, 2, 3, 4, 5])

    def test_it_touches_nothing_else(self):
        process, tape = fresh(0, 3)
        process.receive(desk_pass(3, 1, ("send", 1, SHOW)))
        before = looks(process, tape, 3)
        for number in (1, MOST):
            self.assertEqual(process.receive(("got", 1, number)), [])
            self.assertEqual(looks(process, tape, 3), before)

    def test_forgotten_at_a_crash(self):
        process, tape = fresh(0, 2)
        process.receive(desk_pass(2, 1, ("send", 1, SHOW)))
        process.receive(("got", 1, 1))
        tape.crash(1)
        process, _ = fresh(0, 2, tape)
        self.assertEqual(self.numbers(process, 1), [1])


class End(unittest.TestCase):
    def depending(self):
        """A process with inputs that depend on the states 3 and 6 of the process 1."""
        process, tape = fresh(0, 4)
        given(process, desk_pass(4, 1, SHOW), pass_from(1, 1, (0, 3), count=4), desk_pass(4, 2, SHOW),
              pass_from(1, 2, (0, 6), count=4), desk_pass(4, 3, SHOW))
        self.assertEqual(tape.pending(), 5)
        return process, tape

    def test_the_next_end_that_undoes_nothing(self):
        for stays in (6, 7, MOST):
            process, tape = self.depending()
            self.assertEqual(process.receive(("end", 1, 0, stays)), [(1, ("heard", 0, 1))])
            self.assertEqual((tape.records()[-1], tape.pending()), (("other", 1, 0, stays), 0))
            self.assertEqual((process.version(), len(process.inputs())), (0, 5))
            self.assertEqual((process.ends(1), process.ends(0)), ([stays], []))

    def test_the_next_end_that_ends_the_version(self):
        for stays, left in ((5, 3), (3, 3), (2, 1), (0, 1)):
            process, tape = self.depending()
            told = ("end", 0, 0, left)
            self.assertEqual(process.receive(("end", 1, 0, stays)),
                             [(1, told), (2, told), (3, told), (1, ("heard", 0, 1))])
            self.assertEqual(tape.records()[-2:], [("other", 1, 0, stays), ("end", 0, left)])
            self.assertEqual((tape.pending(), len(tape.records())), (0, 8))
            self.assertEqual((process.version(), len(process.inputs())), (1, left))
            self.assertEqual((process.ends(1), process.ends(0)), ([stays], [left]))

    def test_the_order_of_the_letters_for_each_process(self):
        for me in range(4):
            for sender in {0, 1, 2, 3} - {me}:
                process, _ = fresh(me, 4)
                process.receive(pass_from(sender, 1, (0, 3), count=4))
                told = ("end", me, 0, 0)
                expected = [(other, told) for other in range(4) if other != me]
                self.assertEqual(process.receive(("end", sender, 0, 2)),
                                 expected + [(sender, ("heard", me, 1))])

    def test_a_version_that_is_not_the_first_one(self):
        process, tape = self.depending()
        self.assertEqual(process.receive(("end", 1, 0, 4))[-1], (1, ("heard", 0, 1)))
        self.assertEqual(process.receive(("end", 1, 1, 2)),
                         [(each, ("end", 0, 1, 1)) for each in (1, 2, 3)] + [(1, ("heard", 0, 2))])
        self.assertEqual(process.receive(("end", 1, 2, 0)), [(1, ("heard", 0, 3))])
        self.assertEqual((process.version(), process.ends(0), process.ends(1)), (2, [3, 1], [4, 2, 0]))
        self.assertEqual(tape.records()[6:], [("other", 1, 0, 4), ("end", 0, 3), ("other", 1, 1, 2),
                                              ("end", 1, 1), ("other", 1, 2, 0)])

    def test_an_earlier_end_and_a_later_one(self):
        process, tape = self.depending()
        # A later one: nothing is known yet.
        for version in (1, 2, MOST):
            before = looks(process, tape, 4)
            self.assertEqual(process.receive(("end", 1, version, 0)), [(1, ("heard", 0, 0))])
            self.assertEqual(looks(process, tape, 4), before)
        given(process, ("end", 1, 0, 6), ("end", 1, 1, 6), desk_pass(4, 4, SHOW))
        for version in (0, 1, 3, 4):
            for stays in (0, 6):
                before = looks(process, tape, 4)
                self.assertEqual(process.receive(("end", 1, version, stays)), [(1, ("heard", 0, 2))])
                self.assertEqual(looks(process, tape, 4), before)
        self.assertEqual(process.receive(("end", 2, 0, 0)), [(2, ("heard", 0, 1))])

    def test_ends_of_processes_that_nothing_depends_on(self):
        process, tape = self.depending()
        self.assertEqual(process.receive(("end", 2, 0, 0)), [(2, ("heard", 0, 1))])
        self.assertEqual(process.receive(("end", 3, 0, 0)), [(3, ("heard", 0, 1))])
        self.assertEqual((process.version(), len(process.inputs()), tape.pending()), (0, 5, 0))

    def test_what_the_undone_states_led_to_is_gone(self):
        process, _ = fresh(0, 2)
        given(process, desk_pass(2, 1, both(("set", 0, 3), SHOW)),
              ("pass", 1, 1, both(("set", 0, 8), SHOW, ("send", 1, SHOW)), clock(2, p1=(0, 4))),
              ("end", 1, 0, 3))
        self.assertEqual((process.cells(), process.outputs()), ((3, 0, 0, 0), ["3"]))
        self.assertEqual(process.clock(), ((0, 1), (0, 0)))
        self.assertEqual([letter[0] for _, letter in process.tick()], ["end", "firm", "show"])
        process.receive(desk_pass(2, 2, SHOW))
        self.assertEqual((process.outputs(), process.clock()), (["3", "3"], ((1, 2), (0, 0))))

    def test_an_undone_input_is_taken_again(self):
        process, _ = fresh(0, 2)
        given(process, desk_pass(2, 1, SHOW), ("pass", 1, 1, SHOW, clock(2, p1=(0, 4))),
              desk_pass(2, 2, SHOW), ("end", 1, 0, 3))
        self.assertEqual(taken(process), [(DESK, 1, 0)])
        given(process, ("pass", 1, 1, SHOW, clock(2, p1=(0, 4))), desk_pass(2, 2, SHOW),
              ("pass", 1, 1, SHOW, clock(2, p1=(1, 4))))
        self.assertEqual(taken(process), [(DESK, 1, 0), (DESK, 2, 1), (1, 1, 1)])


class Heard(unittest.TestCase):
    def ended(self, times):
        tape = None
        for _ in range(times + 1):
            process, tape = fresh(0, 3, tape)
        return process

    def told(self, process, receiver):
        return [letter[2] for to, letter in process.tick() if to == receiver and letter[0] == "end"]

    def test_numbers_that_rise_are_equal_and_fall(self):
        process = self.ended(5)
        self.assertEqual(self.told(process, 1), [0, 1, 2, 3, 4])
        for known, left in ((0, [0, 1, 2, 3, 4]), (2, [2, 3, 4]), (2, [2, 3, 4]), (1, [2, 3, 4]),
                            (0, [2, 3, 4]), (4, [4]), (5, []), (3, [])):
            self.assertEqual(process.receive(("heard", 1, known)), [])
            self.assertEqual(self.told(process, 1), left)
            self.assertEqual(self.told(process, 2), [0, 1, 2, 3, 4])

    def test_it_touches_nothing_else(self):
        process, tape = fresh(0, 3)
        before = looks(process, tape, 3)
        for known in (0, 1, MOST):
            self.assertEqual(process.receive(("heard", 1, known)), [])
            self.assertEqual(looks(process, tape, 3), before)


class FirmLetters(unittest.TestCase):
    def shown(self, number, text):
        return (DESK, ("show", 0, number, text))

    def depending(self):
        process, tape = fresh(0, 3)
        given(process, pass_from(1, 1, (0, 1), both(("set", 0, 1), SHOW)),
              pass_from(1, 2, (0, 2), ("set", 0, 2)),
              pass_from(1, 3, (0, 4), both(SHOW, ("set", 0, 3), SHOW)),
              desk_pass(3, 1, ("show", 0)),
              pass_from(2, 1, (0, 6), both(("set", 0, 4), SHOW)))
        process.flush()
        return process, tape

    def test_pairs_that_commit_nothing(self):
        process, tape = self.depending()
        before = looks(process, tape, 3)
        for letter in (("firm", 1, 0, 0), ("firm", 2, 0, 9), ("firm", 2, 0, 0)):
            self.assertEqual(process.receive(letter), [])
            self.assertEqual(looks(process, tape, 3), before)

    def test_one_state_with_an_output_and_one_without(self):
        process, _ = self.depending()
        self.assertEqual(process.receive(("firm", 1, 0, 1)), [self.shown(1, "1")])
        self.assertEqual(process.committed(), 1)
        self.assertEqual(process.receive(("firm", 1, 0, 1)), [])
        self.assertEqual(process.receive(("firm", 1, 0, 2)), [])
        self.assertEqual(process.committed(), 2)
        self.assertEqual(process.receive(("firm", 1, 0, 3)), [])
        self.assertEqual(process.committed(), 2)

    def test_several_states(self):
        process, _ = self.depending()
        self.assertEqual(process.receive(("firm", 1, 0, 3)), [self.shown(1, "1")])
        self.assertEqual(process.receive(("firm", 1, 0, 7)),
                         [self.shown(2, "2"), self.shown(3, "3"), self.shown(4, "3")])
        self.assertEqual(process.committed(), 4)
        self.assertEqual(process.receive(("firm", 2, 0, 6)), [self.shown(5, "4")])
        self.assertEqual(process.committed(), 5)

    def test_all_of_them(self):
        process, _ = self.depending()
        process.receive(("firm", 2, 0, 6))
        self.assertEqual(process.receive(("firm", 1, 0, 4)),
                         [self.shown(at + 1, text) for at, text in enumerate("12334")])

    def test_outputs_that_a_tick_committed_are_not_sent_again(self):
        process, _ = self.depending()
        process.receive(("end", 1, 0, 3))
        process.tick()
        self.assertEqual(process.committed(), 0)
        process.receive(("end", 1, 1, 3))
        self.assertEqual(process.receive(("firm", 1, 1, 0)), [self.shown(1, "1")])
        self.assertEqual((process.committed(), process.receive(("firm", 1, 2, 0))), (2, []))

    def test_outputs_that_the_desk_has_seen_are_sent_as_well(self):
        process, _ = self.depending()
        process.receive(("seen", DESK, 3))
        self.assertEqual(process.receive(("firm", 1, 0, 1)), [self.shown(1, "1")])

    def test_more_than_a_window_at_once(self):
        process, _ = fresh(0, 2)
        given(process, ("pass", 1, 1, many(SHOW, 5), clock(2, p1=(0, 1))))
        process.flush()
        self.assertEqual(process.receive(("firm", 1, 0, 1)),
                         [self.shown(number, "0") for number in range(1, 33)])

    def test_lesser_pairs_change_nothing(self):
        process, _ = self.depending()
        given(process, ("firm", 1, 0, 2), ("firm", 1, 0, 1), ("firm", 1, 0, 0))
        self.assertEqual(process.committed(), 2)
        given(process, ("end", 1, 0, 4), ("firm", 1, 1, 0), ("firm", 1, 0, 3))
        self.assertEqual(process.committed(), 4)

    def test_the_own_states_must_be_durable(self):
        process, _ = fresh(0, 2)
        given(process, ("pass", 1, 1, SHOW, clock(2, p1=(0, 1))))
        self.assertEqual(process.receive(("firm", 1, 0, 5)), [])
        self.assertEqual(process.committed(), 0)
        process.flush()
        self.assertEqual(process.committed(), 0)
        self.assertEqual(process.receive(("firm", 1, 0, 0)), [self.shown(1, "0")])

    def test_nothing_is_told_by_it(self):
        process, _ = self.depending()
        self.assertEqual(firm_told(process, 0, 3), (0, 5))
        process.receive(("firm", 1, 9, 9))
        self.assertEqual(firm_told(process, 0, 3), (0, 5))


class Seen(unittest.TestCase):
    def test_numbers_that_rise_are_equal_and_fall(self):
        process, tape = fresh(0, 2)
        process.receive(desk_pass(2, 1, many(SHOW, 2)))
        process.flush()
        self.assertEqual(self.shown(process), [1, 2, 3, 4])
        before = looks(process, tape, 2)
        for number, left in ((0, [1, 2, 3, 4]), (1, [2, 3, 4]), (3, [4]), (3, [4]), (2, [4]), (0, [4]),
                             (4, []), (1, [])):
            self.assertEqual(process.receive(("seen", DESK, number)), [])
            self.assertEqual(looks(process, tape, 2)[:-2], before[:4] + (1,) + before[5:-2])
            self.assertEqual(self.shown(process), left)

    def shown(self, process):
        return [letter[2] for to, letter in process.tick() if to == DESK]

    def test_more_than_there_are(self):
        process, _ = fresh(0, 2)
        process.receive(desk_pass(2, 1, SHOW))
        process.flush()
        self.assertEqual(process.receive(("seen", DESK, MOST)), [])
        self.assertEqual(self.shown(process), [])
