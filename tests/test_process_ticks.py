"""Points 613 to 615: ticks, flush, and tapes that crash within a call."""

import unittest

from firmground.errors import TapeCrashed
from firmground.process import Process
from firmground.tape import Tape
from tests.making import DESK, SHOW, both, clock, crashes, desk_input, desk_pass, fresh, given, looks, many
from tests.making import tape_with


def kinds(letters):
    """Of each letter the receiver, the kind and the number (of an end the version)."""
    return [(receiver, letter[0], letter[2]) for receiver, letter in letters]


class Syncs(unittest.TestCase):
    def test_the_fourth_and_the_eighth_tick(self):
        process, tape = fresh(0, 2)
        number = 0
        for tick in range(1, 14):
            number += 1
            process.receive(desk_pass(2, number, SHOW))
            before = tape.pending()
            letters = process.tick()
            if tick in (4, 8, 12):
                self.assertEqual((tape.pending(), process.committed()), (0, number))
                self.assertIn((1, ("firm", 0, 0, number)), letters)
            else:
                self.assertEqual(tape.pending(), before)
                self.assertIn((1, ("firm", 0, 0, number - tick % 4)), letters)

    def test_counted_from_each_creation(self):
        tape = Tape()
        for before in range(4):
            process, _ = fresh(0, 2, tape)
            for _ in range(before):
                process.tick()
            tape.crash(0)
            process, _ = fresh(0, 2, tape)
            process.receive(desk_pass(2, 1, SHOW))
            self.assertEqual([(process.tick(), tape.pending())[1] for _ in range(3)], [1, 1, 1])
            tape.crash(0)

    def test_calls_between_do_not_count(self):
        process, tape = fresh(0, 2)
        for number in range(1, 4):
            process.tick()
            process.receive(desk_pass(2, number, SHOW))
            process.flush()
            process.receive(("seen", DESK, 0))
        process.receive(desk_pass(2, 4, SHOW))
        self.assertEqual(tape.pending(), 1)
        process.tick()
        self.assertEqual(tape.pending(), 0)

    def test_the_sync_comes_before_what_is_told_and_shown(self):
        process, tape = fresh(0, 2)
        process.receive(desk_pass(2, 1, both(SHOW, ("send", 1, SHOW))))
        sent = (1, ("pass", 0, 1, SHOW, clock(2, p0=(0, 1))))
        for _ in range(3):
            self.assertEqual(process.tick(), [(1, ("firm", 0, 0, 0)), sent])
            self.assertEqual((process.committed(), tape.pending()), (0, 1))
        for _ in range(5):
            self.assertEqual(process.tick(), [(1, ("firm", 0, 0, 1)), sent, (DESK, ("show", 0, 1, "0"))])
            self.assertEqual((process.committed(), tape.pending()), (1, 0))


class Order(unittest.TestCase):
    def test_a_process_without_anything(self):
        for count in (1, 2, 3, 10):
            for me in (0, count // 2, count - 1):
                process, _ = fresh(me, count)
                for _ in range(9):
                    self.assertEqual(process.tick(), [(other, ("firm", me, 0, 0))
                                                      for other in range(count) if other != me])

    def test_something_of_everything(self):
        for count in (1, 2, 3, 10):
            for me in (0, count // 2, count - 1):
                self.check(me, count)

    def check(self, me, count):
        tape = tape_with(("start",), ("end", 0, 0))
        process = Process(me, count, tape)
        # Two sends to each process, in two states; two outputs.
        numbers = [0] * count
        for each in range(count):
            for payload in (both(SHOW, ("send", each, SHOW)), ("send", each, ("show", 1))):
                numbers[each] += 1
                process.receive(desk_pass(count, sum(numbers), payload))
        process.flush()
        expected = []
        for each in range(count):
            if each != me:
                expected += [(each, ("end", me, 0, 0)), (each, ("end", me, 1, 0)),
                             (each, ("firm", me, 2, 2 * count))]
            for number, payload in ((1, SHOW), (2, ("show", 1))):
                at = [(0, 0)] * count
                at[me] = (2, 2 * each + number)
                expected.append((each, ("pass", me, number, payload, tuple(at))))
        expected += [(DESK, ("show", me, number, "0")) for number in range(1, count + 1)]
        for _ in range(4):
            self.assertEqual(process.tick(), expected)

    def test_each_letter_again_until_it_is_told(self):
        process, tape = fresh(0, 3, tape_with(("start",)))
        process.receive(desk_pass(3, 1, both(SHOW, ("send", 0, SHOW), ("send", 1, SHOW), ("send", 2, SHOW))))
        process.flush()
        whole = [(0, "pass", 1), (1, "end", 0), (1, "firm", 1), (1, "pass", 1), (2, "end", 0),
                 (2, "firm", 1), (2, "pass", 1), (DESK, "show", 1)]
        self.assertEqual(kinds(process.tick()), whole)
        for letter, gone in ((("heard", 2, 1), (2, "end", 0)), (("got", 1, 1), (1, "pass", 1)),
                             (("seen", DESK, 1), (DESK, "show", 1)), (("got", 0, 1), (0, "pass", 1)),
                             (("heard", 1, 1), (1, "end", 0)), (("got", 2, 1), (2, "pass", 1))):
            process.receive(letter)
            whole.remove(gone)
            self.assertEqual(kinds(process.tick()), whole)
        self.assertEqual(whole, [(1, "firm", 1), (2, "firm", 1)])

    def test_outputs_of_committed_states_only(self):
        process, _ = fresh(0, 2)
        given(process, desk_pass(2, 1, both(SHOW, ("set", 0, 1), SHOW)),
              ("pass", 1, 1, both(SHOW, ("set", 0, 2)), clock(2, p1=(0, 3))), desk_pass(2, 2, SHOW))
        process.flush()
        self.assertEqual(process.tick()[1:], [(DESK, ("show", 0, 1, "0")), (DESK, ("show", 0, 2, "1"))])
        process.receive(("firm", 1, 0, 3))
        process.receive(("seen", DESK, 1))
        self.assertEqual(process.tick()[1:], [(DESK, ("show", 0, 2, "1")), (DESK, ("show", 0, 3, "1")),
                                              (DESK, ("show", 0, 4, "2"))])

    def test_a_tick_shows_what_it_commits(self):
        process, _ = fresh(0, 1)
        process.receive(desk_pass(1, 1, SHOW))
        process.flush()
        self.assertEqual(process.committed(), 0)
        self.assertEqual(process.tick(), [(DESK, ("show", 0, 1, "0"))])
        self.assertEqual(process.committed(), 1)


class Window(unittest.TestCase):
    def test_ends(self):
        tape = Tape()
        for _ in range(41):
            process, _ = fresh(1, 3, tape)
        self.assertEqual(process.version(), 40)
        for heard, expected in ((0, range(16)), (1, range(1, 17)), (16, range(16, 32)),
                                (23, range(23, 39)), (24, range(24, 40)), (25, range(25, 40)),
                                (39, range(39, 40)), (40, range(0))):
            process.receive(("heard", 0, heard))
            letters = process.tick()
            self.assertEqual([letter for to, letter in letters if to == 0],
                             [("end", 1, version, 0) for version in expected] + [("firm", 1, 40, 0)])
            self.assertEqual([letter for to, letter in letters if to == 2],
                             [("end", 1, version, 0) for version in range(16)] + [("firm", 1, 40, 0)])

    def test_sends(self):
        process, _ = fresh(0, 2)
        for number in range(1, 41):
            process.receive(desk_pass(2, number, both(("send", 1, ("set", 0, number)), ("send", 0, SHOW))))
        for got, expected in ((0, range(1, 17)), (1, range(2, 18)), (23, range(24, 40)),
                              (24, range(25, 41)), (25, range(26, 41)), (39, range(40, 41)), (40, range(0))):
            if got:
                process.receive(("got", 1, got))
            letters = process.tick()
            self.assertEqual([letter for to, letter in letters if to == 1 and letter[0] == "pass"],
                             [("pass", 0, number, ("set", 0, number), clock(2, p0=(0, number)))
                              for number in expected])
            self.assertEqual([letter[2] for to, letter in letters if to == 0], list(range(1, 17)))

    def test_outputs(self):
        process, _ = fresh(0, 1)
        process.receive(desk_pass(1, 1, many(SHOW, 5)))
        process.receive(desk_pass(1, 2, many(("show", 1), 3)))
        process.flush()
        for seen, expected in ((0, range(1, 17)), (1, range(2, 18)), (23, range(24, 40)),
                               (24, range(25, 41)), (25, range(26, 41)), (39, range(40, 41)), (40, range(0))):
            process.receive(("seen", DESK, seen))
            self.assertEqual(process.tick(), [(DESK, ("show", 0, number, "0")) for number in expected])

    def test_exactly_so_many(self):
        for many_of, told in ((15, 15), (16, 16), (17, 16)):
            process, _ = fresh(0, 2)
            for number in range(1, many_of + 1):
                process.receive(desk_pass(2, number, both(SHOW, ("send", 1, SHOW))))
            process.flush()
            letters = process.tick()
            self.assertEqual(len([to for to, letter in letters if letter[0] == "pass"]), told)
            self.assertEqual(len([to for to, letter in letters if letter[0] == "show"]), told)


class Flush(unittest.TestCase):
    def test_with_nothing_pending(self):
        process, tape = fresh(0, 2)
        before = looks(process, tape, 2)
        self.assertIsNone(process.flush())
        self.assertEqual(looks(process, tape, 2), before)

    def test_with_something_pending(self):
        process, tape = fresh(0, 2)
        process.receive(desk_pass(2, 1, SHOW))
        process.receive(desk_pass(2, 2, SHOW))
        self.assertEqual(tape.pending(), 2)
        self.assertIsNone(process.flush())
        self.assertEqual((tape.pending(), process.committed(), process.version()), (0, 0, 0))
        self.assertEqual(process.tick()[0], (1, ("firm", 0, 0, 2)))

    def test_it_syncs_also_with_nothing_pending(self):
        process, tape = fresh(0, 2)
        tape.arm(0)
        with self.assertRaises(TapeCrashed):
            process.flush()


class Crashes(unittest.TestCase):
    def armed(self, count, *letters, me=0, group=2):
        process, tape = fresh(me, group)
        given(process, *letters)
        tape.arm(count)
        return process, tape

    def again(self, tape, keep):
        tape.crash(keep)
        return fresh(0, 2, tape)[0]

    def test_at_a_pass(self):
        for count in range(4):
            letters = [desk_pass(2, number, both(SHOW, ("send", 1, SHOW))) for number in range(1, 6)]
            process, tape = self.armed(count)
            for letter in letters[:count]:
                self.assertEqual(len(process.receive(letter)), 1)
            self.assertTrue(crashes(process.receive, letters[count]))
            self.assertEqual(tape.pending(), count)
            self.assertTrue(crashes(tape.records))

    def test_a_pass_that_is_not_taken_is_no_operation(self):
        process, tape = self.armed(0, desk_pass(2, 1, SHOW))
        for letter in (desk_pass(2, 1, SHOW), desk_pass(2, 3, SHOW),
                       ("pass", 1, 1, SHOW, clock(2, p1=(1, 1))), None, ("got", 1, 1), ("heard", 1, 1),
                       ("seen", DESK, 0), ("firm", 1, 0, 0)):
            self.assertEqual(process.receive(letter), [])
        self.assertEqual(process.receive(("end", 1, 1, 0)), [(1, ("heard", 0, 0))])
        self.assertTrue(crashes(process.receive, desk_pass(2, 2, SHOW)))

    def test_each_keep_behind_a_crash(self):
        for keep in range(5):
            process, tape = self.armed(3)
            for number in (1, 2, 3):
                process.receive(desk_pass(2, number, SHOW))
            self.assertTrue(crashes(process.receive, desk_pass(2, 4, SHOW)))
            process = self.again(tape, keep)
            left = min(keep, 3)
            self.assertEqual([row[1] for row in process.inputs()], list(range(1, left + 1)))
            self.assertEqual(tape.records(), [("start",)] + [desk_input(2, number, SHOW)
                             for number in range(1, left + 1)] + [("end", 0, left)])
            self.assertEqual((process.version(), process.committed(), tape.pending()), (1, 0, 0))
            self.assertEqual(process.tick()[:2], [(1, ("end", 0, 0, left)), (1, ("firm", 0, 1, left))])

    def test_at_an_end_that_undoes_nothing(self):
        for count, pending in ((0, 1), (1, 2)):
            process, tape = self.armed(count, desk_pass(2, 1, SHOW))
            self.assertTrue(crashes(process.receive, ("end", 1, 0, 4)))
            self.assertEqual(tape.pending(), pending)
            process = self.again(tape, 9)
            self.assertEqual((process.ends(1), process.ends(0)), ([4] * count, [1]))
        process, tape = self.armed(2, desk_pass(2, 1, SHOW))
        self.assertEqual(process.receive(("end", 1, 0, 4)), [(1, ("heard", 0, 1))])
        self.assertTrue(crashes(process.flush))

    def test_at_an_end_that_undoes(self):
        letters = (desk_pass(2, 1, SHOW), ("pass", 1, 1, SHOW, clock(2, p1=(0, 5))))
        end, other = ("end", 0, 1), ("other", 1, 0, 4)
        # The records behind the inputs that are there when all pending ones are kept.
        for count, pending, kept in ((0, 2, []), (1, 3, [other]), (2, 0, [other]), (3, 1, [other, end])):
            process, tape = self.armed(count, *letters)
            self.assertTrue(crashes(process.receive, ("end", 1, 0, 4)))
            self.assertEqual(tape.pending(), pending)
            tape.crash(9)
            self.assertEqual(tape.records()[3:], kept)
            process = fresh(0, 2, tape)[0]
            stays = 2 if count == 0 else 1
            self.assertEqual((len(process.inputs()), process.ends(1)), (stays, [4][:len(kept)]))
            self.assertEqual(process.ends(0), [1, 1] if count == 3 else [stays])
        process, tape = self.armed(4, *letters)
        self.assertEqual(process.receive(("end", 1, 0, 4)), [(1, ("end", 0, 0, 1)), (1, ("heard", 0, 1))])
        self.assertTrue(crashes(process.flush))

    def test_an_own_end_that_is_not_kept_comes_again(self):
        process, tape = self.armed(3, desk_pass(2, 1, SHOW), ("pass", 1, 1, SHOW, clock(2, p1=(0, 5))))
        self.assertTrue(crashes(process.receive, ("end", 1, 0, 4)))
        process = self.again(tape, 0)
        self.assertEqual((process.ends(0), process.ends(1), process.version()), ([1], [4], 1))
        self.assertEqual(tape.records()[3:], [("other", 1, 0, 4), ("end", 0, 1)])

    def test_at_a_tick(self):
        process, tape = self.armed(0, desk_pass(2, 1, SHOW))
        for _ in range(3):
            self.assertEqual(process.tick(), [(1, ("firm", 0, 0, 0))])
        self.assertTrue(crashes(process.tick))
        self.assertEqual(tape.pending(), 1)
        process, tape = self.armed(1, desk_pass(2, 1, SHOW))
        for _ in range(7):
            process.tick()
        self.assertTrue(crashes(process.tick))
        process, tape = self.armed(2, desk_pass(2, 1, SHOW))
        for _ in range(11):
            process.tick()
        self.assertTrue(crashes(process.tick))

    def test_at_flush(self):
        for count in range(4):
            process, tape = self.armed(count, desk_pass(2, 1, SHOW))
            for _ in range(count):
                process.flush()
            self.assertTrue(crashes(process.flush))
            self.assertEqual(tape.pending(), 0 if count else 1)

    def test_at_the_creation(self):
        for records in ((), (("start",), desk_input(2, 1, SHOW))):
            for count in range(4):
                tape = tape_with(*records)
                tape.arm(count)
                self.assertEqual(crashes(Process, 0, 2, tape), count < 2)

    def test_all_of_it_again_on_the_same_tape(self):
        tape = Tape()
        for turn in range(6):
            process, _ = fresh(0, 2, tape)
            self.assertEqual((process.version(), len(process.inputs())), (turn, turn))
            process.receive(desk_pass(2, turn + 1, SHOW))
            process.receive(desk_pass(2, turn + 2, SHOW))
            tape.arm(0)
            self.assertTrue(crashes(process.receive, desk_pass(2, turn + 3, SHOW)))
            self.assertTrue(crashes(Process, 0, 2, tape))
            tape.crash(1)
        self.assertEqual([row[1:] for row in fresh(0, 2, tape)[0].inputs()],
                         [(turn + 1, SHOW, ((0, 0), (0, 0)), turn) for turn in range(6)])
