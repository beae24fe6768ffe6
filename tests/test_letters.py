"""Points 108 and 110 to 112: firmground.letters."""

import unittest

from firmground import letters
from firmground.errors import BadLetter
from firmground.letters import check_letter, is_clock, is_letter
from tests.values import Answers, Touchy, at, deep_tuple, not_counts, other_kinds, paths, put

DESK = -1
MOST = 10 ** 12
SHOW = ("show", 0)

# Letters of a group of three processes.
ZERO = ((0, 0), (0, 0), (0, 0))
CLOCK = ((2, 5), (0, 3), (0, 0))
LETTERS = [
    ("pass", DESK, 1, ("both", SHOW, ("send", 2, SHOW)), ZERO),
    ("pass", 0, 1, SHOW, CLOCK),
    ("pass", 1, MOST, ("set", 3, -1000000), CLOCK),
    ("got", 0, 1),
    ("got", 2, MOST),
    ("end", 0, 0, 0),
    ("end", 2, MOST, 5),
    ("heard", 1, 0),
    ("heard", 2, MOST),
    ("firm", 0, 0, 0),
    ("firm", 1, 3, 0),
    ("show", 2, 1, ""),
    ("show", 0, MOST, "-1000000"),
    ("seen", DESK, 0),
    ("seen", DESK, MOST),
]
KINDS = ("pass", "got", "end", "heard", "firm", "show", "seen")


def with_sender(letter, sender):
    return (letter[0], sender) + letter[2:]


def simple(kind, sender):
    """A letter of this kind in a group of three processes."""
    clock = ZERO if sender == DESK else put(CLOCK, (2,), (1, 1))
    return {"pass": ("pass", sender, 2, SHOW, clock), "got": ("got", sender, 2),
            "end": ("end", sender, 2, 3), "heard": ("heard", sender, 2),
            "firm": ("firm", sender, 2, 3), "show": ("show", sender, 2, "7"),
            "seen": ("seen", sender, 2)}[kind]


class Clock(Answers):
    def test_the_examples_of_the_document(self):
        self.check_shown(is_clock, True, 2, ((0, 3), (1, 7)))
        self.check_shown(is_clock, False, 2, ((0, 3), (1, 0)))

    def test_ordinary_clocks(self):
        for value in (ZERO, CLOCK, ((1, 1), (1, 1), (1, 1)), ((0, 9), (5, 4), (0, 0))):
            self.check_shown(is_clock, True, 3, value)

    def test_the_zero_clock_of_each_group(self):
        for count in range(1, 11):
            for length in range(0, 13):
                self.check_shown(is_clock, count == length, count, ((0, 0),) * length)

    def test_too_few_and_too_many_pairs(self):
        self.check_shown(is_clock, False, 3, CLOCK[:2])
        self.check_shown(is_clock, False, 3, CLOCK + ((0, 0),))
        self.check_shown(is_clock, False, 3, ())
        self.check_shown(is_clock, False, 2, (0, 0))

    def test_the_ends_of_the_numbers(self):
        for version in (0, 1, MOST - 1, MOST):
            for count in (1, 2, MOST - 1, MOST):
                self.check_shown(is_clock, True, 1, ((version, count),))
                self.check_shown(is_clock, True, 2, ((0, 0), (version, count)))
        for bad in (-1, MOST + 1, 10 ** 40, -10 ** 40):
            for pair in ((bad, 1), (1, bad), (0, bad), (bad, bad), (bad, 0)):
                self.check_shown(is_clock, False, 1, (pair,))
                self.check_shown(is_clock, False, 2, (pair, (0, 0)))
                self.check_shown(is_clock, False, 2, ((0, 0), pair))

    def test_a_count_of_zero_has_the_version_zero(self):
        for version in (1, 2, MOST):
            for place in range(3):
                self.check_shown(is_clock, False, 3, put(CLOCK, (place,), (version, 0)))
        self.check_shown(is_clock, True, 3, put(CLOCK, (0,), (0, 0)))

    def test_pairs_with_a_part_left_out_or_put_in(self):
        for pair in ((), (0,), (1,), (0, 0, 0), (1, 1, 1), ((0, 0),), ((0, 0), (0, 0))):
            for place in range(3):
                self.check_shown(is_clock, False, 3, put(CLOCK, (place,), pair))

    def test_lists_for_tuples(self):
        self.check_shown(is_clock, False, 3, list(CLOCK))
        for place in range(3):
            self.check_shown(is_clock, False, 3, put(CLOCK, (place,), list(CLOCK[place])))

    def test_other_kinds(self):
        for value in other_kinds() + [0, 1, "", "clock", (None,), ((0, 1),) * 2]:
            for count in (1, 3):
                self.check(is_clock, False, count, value)
            self.check(is_clock, False, 3, (value, value, value))
            for path in ((0,), (1,), (2,)):
                self.check(is_clock, False, 3, put(CLOCK, path, value))
        for value in other_kinds() + ["", "1", -1, 0.0, 1.0]:
            for path in ((0, 0), (0, 1), (1, 0), (1, 1), (2, 0), (2, 1)):
                self.check(is_clock, False, 3, put(CLOCK, path, value))

    def test_counts_that_are_none(self):
        for count in not_counts():
            for value in ((), ((0, 0),), ZERO, ((0, 0),) * 11, None):
                self.check(is_clock, False, count, value)

    def test_very_deep_values(self):
        self.check(is_clock, False, 2, deep_tuple((0, 0), 100000))
        self.check(is_clock, False, 1, (deep_tuple(0, 100000),))


class Letter(Answers):
    def test_ordinary_letters(self):
        for letter in LETTERS:
            self.check_shown(is_letter, True, 3, letter)

    def test_each_kind_with_each_sender(self):
        for kind in KINDS:
            for sender in (DESK, 0, 1, 2):
                allowed = {"pass": True, "seen": sender == DESK}.get(kind, sender != DESK)
                self.check_shown(is_letter, allowed, 3, simple(kind, sender))

    def test_senders_that_are_none(self):
        for kind in KINDS:
            for sender in other_kinds() + [-2, 3, 4, 10, "0", "", "DESK", 0.0, -1.0, 2.0, (0,),
                                           10 ** 40]:
                self.check(is_letter, False, 3, with_sender(simple(kind, 0), sender))
                self.check(is_letter, False, 3, with_sender(simple(kind, DESK), sender))

    def test_the_processes_of_each_group(self):
        for count in range(1, 11):
            for sender in range(0, 12):
                for letter in (("got", sender, 1), ("firm", sender, 0, 1), ("show", sender, 1, "")):
                    self.check_shown(is_letter, sender < count, count, letter)

    def test_numbers_from_one_on(self):
        for number in (-1, 0, 1, 2, MOST - 1, MOST, MOST + 1, -MOST, 10 ** 40):
            expected = 1 <= number <= MOST
            for letter in (("pass", DESK, number, SHOW, ZERO), ("pass", 0, number, SHOW, CLOCK),
                           ("got", 0, number), ("show", 0, number, "0")):
                self.check_shown(is_letter, expected, 3, letter)

    def test_numbers_from_zero_on(self):
        for number in (-1, 0, 1, 2, MOST - 1, MOST, MOST + 1, -MOST, 10 ** 40):
            expected = 0 <= number <= MOST
            for letter in (("end", 1, number, 0), ("end", 1, 0, number), ("end", 1, 1, number),
                           ("heard", 1, number), ("firm", 1, number, 0), ("firm", 1, 0, number),
                           ("firm", 1, number, number), ("seen", DESK, number)):
                self.check_shown(is_letter, expected, 3, letter)

    def test_a_pass_of_the_desk_has_the_zero_clock(self):
        self.check_shown(is_letter, True, 3, ("pass", DESK, 4, SHOW, ZERO))
        for clock in (CLOCK, ((0, 1), (0, 0), (0, 0)), ((0, 0), (0, 1), (0, 0)),
                      ((0, 0), (0, 0), (0, 1)), ((0, 0), (0, 0), (3, 1))):
            self.check_shown(is_letter, False, 3, ("pass", DESK, 4, SHOW, clock))

    def test_a_pass_of_a_process_has_a_count_for_it(self):
        for sender in range(3):
            for pair in ((0, 1), (0, 2), (3, 1), (MOST, MOST)):
                alone = put(ZERO, (sender,), pair)
                self.check_shown(is_letter, True, 3, ("pass", sender, 4, SHOW, alone))
            others = put(((0, 1), (4, 1), (0, 9)), (sender,), (0, 0))
            self.check_shown(is_letter, False, 3, ("pass", sender, 4, SHOW, others))
            self.check_shown(is_letter, False, 3, ("pass", sender, 4, SHOW, ZERO))

    def test_clocks_of_another_group(self):
        for sender, clock in ((DESK, ZERO), (0, CLOCK)):
            for bad in (clock[:2], clock + ((0, 0),), (), list(clock), None, put(clock, (2,), (1, 0))):
                self.check_shown(is_letter, False, 3, ("pass", sender, 4, SHOW, bad))

    def test_payloads(self):
        for payload, expected in ((("send", 2, SHOW), True), (("send", 3, SHOW), False),
                                  (("show", 4), False), ("(show 0)", False), (None, False),
                                  (deep_tuple("both", 5), True), (deep_tuple("both", 6), False)):
            self.check_shown(is_letter, expected, 3, ("pass", DESK, 1, payload, ZERO))
            self.check_shown(is_letter, expected, 3, ("pass", 0, 1, payload, CLOCK))
        self.check(is_letter, False, 3, ("pass", DESK, 1, deep_tuple("both", 100000), ZERO))

    def test_outputs(self):
        for text in ("", "0", "-5", "~" * 40, "a b"):
            self.check_shown(is_letter, True, 3, ("show", 1, 1, text))
        for text in ("~" * 41, "a\n", "%", "\x7f", "\xe9", 0, None, b"0", ("0",), ["0"], True):
            self.check_shown(is_letter, False, 3, ("show", 1, 1, text))

    def test_very_deep_values(self):
        self.check(is_letter, False, 2, deep_tuple("pass", 100000))
        self.check(is_letter, False, 2, deep_tuple("got", 100000, 0))
        self.check(is_letter, False, 2, ("got", 0, deep_tuple("both", 100000)))

    def test_counts_that_are_none(self):
        for count in not_counts():
            for letter in LETTERS + [None]:
                self.check(is_letter, False, count, letter)

    def test_other_kinds(self):
        for value in other_kinds() + [0, 1, "", "got", ["got", 0, 1], ("got",), (("got", 0, 1),)]:
            self.check(is_letter, False, 3, value)

    def test_kinds_that_are_none(self):
        wrong = other_kinds() + ["", "Got", "got ", "gots", "set", "both", "tick", 0, 1, -1, b"got", Touchy()]
        for kind in wrong:
            for letter in LETTERS:
                self.check(is_letter, False, 3, (kind,) + letter[1:])
            self.check(is_letter, False, 3, (kind,))


class Altered(Answers):
    """Letters in which one thing was changed."""

    def test_a_part_left_out_or_put_in(self):
        for letter in LETTERS:
            for place in range(len(letter)):
                shorter = letter[:place] + letter[place + 1:]
                self.check_shown(is_letter, False, 3, shorter)
                for item in (0, 1, letter[place], SHOW, None, "0", letter[0]):
                    longer = letter[:place] + (item,) + letter[place:]
                    self.check_shown(is_letter, False, 3, longer)
            self.check_shown(is_letter, False, 3, letter + (0,))

    def test_the_kind_of_another_letter(self):
        alike = {"got": {"heard"}, "heard": {"got"}, "end": {"firm"}, "firm": {"end"}}
        for letter in LETTERS:
            for kind in KINDS:
                fits = kind == letter[0] or kind in alike.get(letter[0], ())
                if kind == "got" and letter[0] == "heard":
                    fits = letter[2] >= 1
                self.check_shown(is_letter, fits, 3, (kind,) + letter[1:])

    def test_a_part_of_another_kind(self):
        for letter in LETTERS:
            for path in paths(letter):
                part = at(letter, path)
                wrong = [None, 0.0, 1.0, b"", [], {}, (), (0,), "\n", -10 ** 7, MOST + 1]
                if type(part) is tuple:
                    wrong += [list(part), part + (0,), (part,), "", 0]
                if type(part) is int:
                    wrong += ["set", SHOW, str(part), float(part), (part,), [part], True, False]
                for value in wrong:
                    self.check_shown(is_letter, False, 3, put(letter, path, value))
                for value in other_kinds():
                    self.check(is_letter, False, 3, put(letter, path, value))


class Check(unittest.TestCase):
    def accept(self, count, receiver, letter):
        with self.subTest(receiver=receiver, letter=letter):
            self.assertIs(check_letter(count, receiver, letter), letter)

    def refuse(self, count, receiver, letter):
        try:
            check_letter(count, receiver, letter)
        except BadLetter:
            return
        kinds = (type(count).__name__, type(receiver).__name__, type(letter).__name__)
        self.fail(f"no BadLetter for {kinds}")

    def test_the_examples_of_the_document(self):
        letter = ("pass", 1, 4, SHOW, ((0, 0), (0, 2)))
        self.assertEqual(check_letter(2, 0, letter), letter)
        self.refuse(2, 0, ("firm", 0, 0, 2))

    def test_each_kind_with_each_sender_and_receiver(self):
        fits = {
            "pass": lambda sender, receiver: receiver != DESK,
            "got": lambda sender, receiver: sender != DESK,
            "end": lambda sender, receiver: DESK not in (sender, receiver) and sender != receiver,
            "heard": lambda sender, receiver: DESK not in (sender, receiver) and sender != receiver,
            "firm": lambda sender, receiver: DESK not in (sender, receiver) and sender != receiver,
            "show": lambda sender, receiver: sender != DESK and receiver == DESK,
            "seen": lambda sender, receiver: sender == DESK and receiver != DESK,
        }
        for kind in KINDS:
            for sender in (DESK, 0, 1, 2):
                for receiver in (DESK, 0, 1, 2):
                    if fits[kind](sender, receiver):
                        self.accept(3, receiver, simple(kind, sender))
                    else:
                        self.refuse(3, receiver, simple(kind, sender))

    def test_a_group_of_one(self):
        self.accept(1, 0, ("pass", 0, 1, SHOW, ((0, 1),)))
        self.accept(1, 0, ("pass", DESK, 1, SHOW, ((0, 0),)))
        self.accept(1, 0, ("got", 0, 1))
        self.accept(1, DESK, ("got", 0, 1))
        for kind in ("end", "heard", "firm"):
            letter = (kind, 0, 1) if kind == "heard" else (kind, 0, 1, 1)
            self.refuse(1, 0, letter)
            self.refuse(1, 1, letter)

    def test_receivers_that_are_none(self):
        receivers = other_kinds() + [-2, 3, 4, 10, "0", "1", "", 0.0, 1.0, -1.0, 2.0, (0,), 10 ** 40]
        for letter in LETTERS:
            for receiver in receivers:
                self.refuse(3, receiver, letter)

    def test_values_that_are_no_letter(self):
        bad = other_kinds() + [0, "", "got", ["got", 0, 1], ("got", 0, 0), ("got", 3, 1),
                               ("got", True, 1), ("heard", 0), ("seen", 0, 1),
                               ("pass", DESK, 1, SHOW, CLOCK), ("pass", 2, 1, SHOW, CLOCK),
                               ("show", 0, 1, "\n"), deep_tuple("got", 100000)]
        for letter in bad:
            for receiver in (DESK, 0, 1, 2, None):
                self.refuse(3, receiver, letter)

    def test_counts_that_are_none(self):
        for count in not_counts():
            for receiver in (DESK, 0, 1):
                for letter in LETTERS:
                    self.refuse(count, receiver, letter)

    def test_the_letter_is_returned_whole(self):
        for letter in LETTERS:
            copy = tuple(letter)
            for receiver in (DESK, 0, 1, 2):
                try:
                    found = check_letter(3, receiver, letter)
                except BadLetter:
                    continue
                self.assertIs(found, letter)
                self.assertEqual(found, copy)


class Home(unittest.TestCase):
    def test_each_function_is_defined_there(self):
        for name in ("is_clock", "is_letter", "check_letter"):
            with self.subTest(name=name):
                self.assertEqual(getattr(letters, name).__module__, "firmground.letters")

    def test_arguments_by_name(self):
        self.assertIs(is_clock(count=1, value=((0, 0),)), True)
        self.assertIs(is_letter(count=1, value=("got", 0, 1)), True)
        self.assertEqual(check_letter(count=1, receiver=-1, letter=("got", 0, 1)), ("got", 0, 1))
