"""Points 104 to 107: firmground.payloads."""

import itertools
import re
import unittest

from firmground import payloads
from firmground.errors import BadPayload, BadText
from firmground.payloads import is_payload, is_process, read_payload, write_payload
from tests.values import Answers, Touchy, at, deep_tuple, not_counts, other_kinds, paths, put

EACH_KIND = [
    ("set", 0, -5), ("add", 3, 1000000), ("copy", 1, 2), ("send", 1, ("show", 0)), ("show", 3),
    ("both", ("show", 0), ("set", 1, 0)), ("if", 2, ("add", 0, -1000000), ("copy", 3, 3)),
]
THEIR_TEXTS = [
    "(set 0 -5)", "(add 3 1000000)", "(copy 1 2)", "(send 1 (show 0))", "(show 3)",
    "(both (show 0) (set 1 0))", "(if 2 (add 0 -1000000) (copy 3 3))",
]

# A payload in which each kind stands, nested 5 deep.
MIXED = ("if", 1, ("send", 1, ("both", ("set", 0, 7), ("copy", 2, 3))),
         ("both", ("both", ("add", 1, -7), ("send", 0, ("if", 0, ("show", 0), ("show", 3)))),
          ("show", 2)))

CHARACTERS = " ()-+0123456789asx_.,%~\n\t\x00\xa0\u0663"

LEAVES = ("(?:set|add) [0-3] (?:0|-?(?:[1-9][0-9]{0,5}|1000000))|copy [0-3] [0-3]|show [0-3]")


def text_pattern(depth):
    """A pattern of the texts of a group of two processes, written apart from the program."""
    pattern = LEAVES
    for _ in range(depth - 1):
        inner = rf"\((?:{pattern})\)"
        pattern = f"{LEAVES}|send [01] {inner}|both {inner} {inner}|if [0-3] {inner} {inner}"
    return re.compile(rf"\((?:{pattern})\)", re.ASCII)


def nested(kind, depth):
    """A payload of this kind that is nested so deeply."""
    value = ("show", 0)
    for _ in range(depth - 1):
        value = {"send": ("send", 0, value), "both": ("both", ("show", 0), value),
                 "if": ("if", 0, value, ("show", 0))}[kind]
    return value


class Process(Answers):
    def test_each_process_of_each_group(self):
        for count in range(1, 11):
            for value in range(-3, 14):
                self.check_shown(is_process, 0 <= value < count, count, value)

    def test_great_numbers(self):
        for value in (10 ** 12, 10 ** 40, -10 ** 40):
            self.check(is_process, False, 10, value)

    def test_counts_that_are_none(self):
        for count in not_counts():
            for value in (0, 1, -1, True, None):
                self.check(is_process, False, count, value)

    def test_other_kinds(self):
        for value in other_kinds() + ["0", "", 0.0, 1.0, (0,)]:
            for count in (1, 2, 10):
                self.check(is_process, False, count, value)


class Payload(Answers):
    def test_each_kind(self):
        for payload in EACH_KIND + [MIXED]:
            for count in (2, 3, 10):
                self.check_shown(is_payload, True, count, payload)

    def test_cells(self):
        for cell in range(-2, 7):
            for payload in (("set", cell, 0), ("add", cell, 0), ("copy", cell, 0),
                            ("copy", 0, cell), ("show", cell),
                            ("if", cell, ("show", 0), ("show", 0))):
                self.check_shown(is_payload, 0 <= cell <= 3, 1, payload)

    def test_values(self):
        for kind in ("set", "add"):
            for value in (-10 ** 6, 1 - 10 ** 6, -1, 0, 1, 10 ** 6 - 1, 10 ** 6):
                self.check_shown(is_payload, True, 1, (kind, 0, value))
            for value in (-10 ** 6 - 1, 10 ** 6 + 1, 10 ** 40, -10 ** 40):
                self.check_shown(is_payload, False, 1, (kind, 0, value))

    def test_processes(self):
        for count in range(1, 11):
            for process in range(-2, 13):
                payload = ("send", process, ("show", 0))
                self.check_shown(is_payload, 0 <= process < count, count, payload)
                self.check_shown(is_payload, 0 <= process < count, count,
                                 ("both", ("show", 0), ("if", 0, payload, ("show", 0))))

    def test_nesting(self):
        for kind in ("send", "both", "if"):
            for depth in range(1, 7):
                self.check_shown(is_payload, True, 1, nested(kind, depth))
            for depth in (7, 8, 50):
                self.check_shown(is_payload, False, 1, nested(kind, depth))

    def test_nesting_on_each_side(self):
        for deep in (nested("both", 5), nested("both", 6)):
            expected = deep == nested("both", 5)
            for payload in (("both", deep, ("show", 0)), ("both", ("show", 0), deep),
                            ("if", 0, deep, ("show", 0)), ("if", 0, ("show", 0), deep),
                            ("send", 0, deep)):
                self.check_shown(is_payload, expected, 1, payload)

    def test_very_deep_values(self):
        for kind, more in (("both", ()), ("if", (0,)), ("send", (0,)), ("none", ())):
            self.check(is_payload, False, 2, deep_tuple(kind, 100000, *more))
        line = ("show", 0)
        for _ in range(100000):
            line = ("send", 0, line)
        self.check(is_payload, False, 2, line)

    def test_counts_that_are_none(self):
        for count in not_counts():
            for payload in EACH_KIND + [None]:
                self.check(is_payload, False, count, payload)

    def test_the_counts_of_both_ends(self):
        for count in (1, 10):
            self.check(is_payload, True, count, ("send", count - 1, ("show", 0)))
            self.check(is_payload, False, count, ("send", count, ("show", 0)))

    def test_other_kinds(self):
        for value in other_kinds() + [0, 1, "", "(show 0)", "show", ["show", 0], ("show",),
                                      (0, "show"), ("show 0",), (("show", 0),)]:
            self.check(is_payload, False, 2, value)

    def test_kinds_that_are_none(self):
        for kind in ["", "Set", "SET", "set ", " set", "sets", "se", "not", "show\n", "got", "pass"]:
            for items in ((), (0,), (0, 0), (("show", 0), ("show", 0)), (0, ("show", 0), ("show", 0))):
                self.check_shown(is_payload, False, 2, (kind,) + items)
        for kind in other_kinds() + [0, 1, -1, ("set",), b"set", Touchy()]:
            for items in ((), (0,), (0, 0)):
                self.check(is_payload, False, 2, (kind,) + items)


class Altered(Answers):
    """Payloads in which one thing was changed, at any depth."""

    def samples(self):
        for payload in EACH_KIND + [MIXED, nested("both", 6)]:
            for path in paths(payload):
                yield payload, path

    def test_a_part_left_out(self):
        for payload, path in self.samples():
            if path:
                row = at(payload, path[:-1])
                shorter = row[:path[-1]] + row[path[-1] + 1:]
                self.check_shown(is_payload, False, 2, put(payload, path[:-1], shorter))

    def test_a_part_put_in(self):
        for payload, path in self.samples():
            if path:
                row, place = at(payload, path[:-1]), path[-1]
                for item in (0, "set", ("show", 0), None, row[place]):
                    longer = row[:place] + (item,) + row[place:]
                    self.check_shown(is_payload, False, 2, put(payload, path[:-1], longer))
                    longer = row[:place + 1] + (item,) + row[place + 1:]
                    self.check_shown(is_payload, False, 2, put(payload, path[:-1], longer))

    def test_neighbours_exchanged(self):
        for payload, path in self.samples():
            if path and path[-1] > 0:
                row, place = at(payload, path[:-1]), path[-1]
                other = row[:place - 1] + (row[place], row[place - 1]) + row[place + 1:]
                same = [type(row[place]), type(row[place - 1])] in ([int, int], [tuple, tuple])
                fits = same and (row[0] == "copy" or row[0] in ("both", "if"))
                if same and row[0] in ("set", "add"):
                    fits = 0 <= row[place] <= 3
                self.check_shown(is_payload, fits, 2, put(payload, path[:-1], other))

    def test_a_part_of_another_kind(self):
        for payload, path in self.samples():
            part = at(payload, path)
            wrong = [None, True, False, 0.0, 1.0, b"a", [], {}, "", "0", "show 0", (), (0,)]
            if type(part) is not int:
                wrong += [0, 1, -1]
            if type(part) is tuple:
                wrong += [list(part), part + (0,), (part,), "set", 0]
            if type(part) is str:
                wrong += [("show", 0), part.upper(), part + " ", part.encode(), [part]]
            if type(part) is int:
                wrong += ["set", ("show", 0), str(part), float(part), (part,), [part], 10 ** 7]
            for value in wrong:
                self.check_shown(is_payload, False, 2, put(payload, path, value))
            for value in other_kinds():
                self.check(is_payload, False, 2, put(payload, path, value))


class Write(unittest.TestCase):
    def test_the_examples_of_the_document(self):
        payload = ("both", ("set", 0, -5), ("send", 1, ("show", 0)))
        self.assertEqual(write_payload(2, payload), "(both (set 0 -5) (send 1 (show 0)))")

    def test_each_kind(self):
        for payload, text in zip(EACH_KIND, THEIR_TEXTS):
            with self.subTest(text=text):
                self.assertEqual(write_payload(2, payload), text)
                self.assertIs(type(write_payload(2, payload)), str)

    def test_integers(self):
        for kind in ("set", "add"):
            for value in (0, 7, -7, 10, -10, 100, 10 ** 6, -10 ** 6, 999999, -999999):
                self.assertEqual(write_payload(1, (kind, 2, value)), f"({kind} 2 {value})")

    def test_nesting(self):
        self.assertEqual(write_payload(1, nested("send", 6)),
                         "(send 0 (send 0 (send 0 (send 0 (send 0 (show 0))))))")
        for kind in ("send", "both", "if"):
            write_payload(1, nested(kind, 6))
            with self.assertRaises(BadPayload):
                write_payload(1, nested(kind, 7))

    def test_the_text_is_printable_and_of_one_line(self):
        self.assertRegex(write_payload(2, MIXED), r"\A[a-z0-9() -]+\Z")

    def refuse(self, count, payload):
        try:
            write_payload(count, payload)
        except BadPayload:
            return
        self.fail(f"no BadPayload for a {type(count).__name__} and a {type(payload).__name__}")

    def test_what_is_no_payload_of_the_group(self):
        for payload in other_kinds() + [0, 1, "", "(show 0)", ["show", 0], ("show", 4), ("show", -1),
                                        ("set", 0, 10 ** 6 + 1), ("set", 0, -10 ** 6 - 1),
                                        ("set", 0, True), ("send", 2, ("show", 0)),
                                        ("both", ("show", 0), ["show", 0]), ("put", 0, 0),
                                        ("both", ("show", 0), ("show", 0), ("show", 0)),
                                        deep_tuple("both", 100000)]:
            self.refuse(2, payload)

    def test_counts_that_are_none(self):
        for count in not_counts():
            self.refuse(count, ("show", 0))


class Read(unittest.TestCase):
    def refuse(self, count, text):
        try:
            found = read_payload(count, text)
        except BadText:
            return
        self.fail(f"{text!r} is read as {found!r}")

    def test_the_examples_of_the_document(self):
        self.assertEqual(read_payload(2, "(if 3 (copy 0 1) (show 2))"),
                         ("if", 3, ("copy", 0, 1), ("show", 2)))
        self.refuse(2, "(send 2 (show 0))")
        self.refuse(2, "(show  0)")

    def test_each_kind(self):
        for payload, text in zip(EACH_KIND, THEIR_TEXTS):
            with self.subTest(text=text):
                found = read_payload(2, text)
                self.assertEqual(found, payload)
                self.assertIs(type(found), tuple)

    def test_what_is_written_is_read(self):
        for payload in EACH_KIND + [MIXED] + [nested(kind, 6) for kind in ("send", "both", "if")]:
            found = read_payload(2, write_payload(2, payload))
            self.assertEqual(found, payload)
            for path in paths(payload):
                self.assertIs(type(at(found, path)), type(at(payload, path)))

    def test_integers(self):
        for kind in ("set", "add"):
            for value in (0, 7, -7, 10, -10, 10 ** 6, -10 ** 6):
                self.assertEqual(read_payload(1, f"({kind} 2 {value})"), (kind, 2, value))
            for word in ("1000001", "-1000001", "9999999", "10000000000000", "9" * 5000, "-0", "+1",
                         "+0", "00", "01", "-01", "007", "--1", "-", "+", "", "1.0", "1e3", "0x1",
                         "1_0", "True", "None", "a", "\u0663", "\uff11", "\u00b2", "1-", "1,"):
                self.refuse(1, f"({kind} 2 {word})")

    def test_cells(self):
        for form in ("(show {})", "(set {} 0)", "(add {} 0)", "(copy {} 0)", "(copy 0 {})",
                     "(if {} (show 0) (show 0))"):
            for cell in range(4):
                read_payload(1, form.format(cell))
            for cell in ("4", "-1", "00", "-0", "+0", "01", "", "10", "a", "(show 0)", "1.0"):
                self.refuse(1, form.format(cell))

    def test_processes(self):
        for count in range(1, 11):
            for process in range(-2, 13):
                text = f"(send {process} (show 0))"
                if 0 <= process < count:
                    self.assertEqual(read_payload(count, text), ("send", process, ("show", 0)))
                else:
                    self.refuse(count, text)

    def test_nesting(self):
        for kind in ("send", "both", "if"):
            text = write_payload(1, nested(kind, 6))
            self.assertEqual(read_payload(1, text), nested(kind, 6))
            deeper = {"send": f"(send 0 {text})", "both": f"(both (show 0) {text})",
                      "if": f"(if 0 {text} (show 0))"}[kind]
            self.refuse(1, deeper)

    def test_very_deep_texts(self):
        for begin, end in (("(send 0 ", ")"), ("(both (show 0) ", ")"), ("(", ")"), ("(", ""),
                           ("", ")"), ("( ", " )"), ("(if 0 ", " (show 0))")):
            self.refuse(2, begin * 100000 + "(show 0)" + end * 100000)

    def test_what_the_document_refuses(self):
        for text in ("", " ", "(", ")", "()", "( )", "show 0", "(show 0", "show 0)", "(show 0))",
                     "((show 0)", "((show 0))", "(show 0) ", " (show 0)", "(show 0)(show 0)",
                     "(show 0) (show 0)", "(show 0)x", "(show 0)\n", "\n(show 0)", "(show\n0)",
                     "(show\t0)", "(show\xa00)", "( show 0)", "(show 0 )", "(show  0)", "(show0)",
                     "(show)", "(show )", "(show 0 0)", "(set 0)", "(set 0 1 2)", "(copy 0)",
                     "(send 0)", "(send (show 0))", "(send 0 (show 0) (show 0))", "(send 0 0)",
                     "(both (show 0))", "(both (show 0)(show 0))", "(both (show 0)  (show 0))",
                     "(both (show 0) (show 0) (show 0))", "(both(show 0) (show 0))",
                     "(both ( show 0) (show 0))", "(both (show 0 ) (show 0))",
                     "(if 0 (show 0))", "(if (show 0) (show 0))", "(if 0 (show 0) 0)",
                     "(put 0 0)", "(SHOW 0)", "(Show 0)", "( 0)", "(0 show)", "(0 0)", "(show show)",
                     "[show 0]", "(show,0)", "(show, 0)", "('show', 0)", "(show (0))", "(show 0%)",
                     "0", "-5", "show", "(show 0)(", "(show 0))(", ")(show 0)(", "())", "(()"):
            self.refuse(2, text)

    def test_counts_that_are_none(self):
        for count in not_counts():
            self.refuse(count, "(show 0)")

    def test_values_that_are_no_string(self):
        for value in other_kinds() + [0, 1, b"(show 0)", ("show", 0), ["(show 0)"],
                                      bytearray(b"(show 0)")]:
            try:
                read_payload(2, value)
            except BadText:
                continue
            self.fail(f"no BadText for a {type(value).__name__}")


class AlteredTexts(unittest.TestCase):
    """Texts in which one character was changed, compared with a pattern of all texts."""

    @classmethod
    def setUpClass(cls):
        cls.pattern = text_pattern(4)

    def compare(self, text):
        if self.pattern.fullmatch(text) is None:
            with self.assertRaises(BadText, msg=text):
                read_payload(2, text)
        else:
            self.assertEqual(write_payload(2, read_payload(2, text)), text)

    def texts(self):
        yield from THEIR_TEXTS
        yield from ("(set 1 -1000000)", "(add 2 999999)", "(if 0 (send 1 (show 1)) (both (set 3 10) "
                    "(copy 2 1)))")

    def test_the_pattern_knows_the_texts(self):
        for text in self.texts():
            self.assertIsNotNone(self.pattern.fullmatch(text))
            self.compare(text)

    def test_cut_off_at_any_place(self):
        for text in self.texts():
            for place in range(len(text)):
                with self.assertRaises(BadText):
                    read_payload(2, text[:place])
                with self.assertRaises(BadText):
                    read_payload(2, text[place + 1:])

    def test_one_more_character_at_any_place(self):
        for text in self.texts():
            for place in range(len(text) + 1):
                for char in CHARACTERS:
                    self.compare(text[:place] + char + text[place:])

    def test_one_character_less_or_another_one(self):
        for text in self.texts():
            for place in range(len(text)):
                self.compare(text[:place] + text[place + 1:])
                for char in CHARACTERS:
                    self.compare(text[:place] + char + text[place + 1:])

    def test_neighbours_exchanged_and_doubled_words(self):
        for text in self.texts():
            for place in range(1, len(text)):
                self.compare(text[:place - 1] + text[place] + text[place - 1] + text[place + 1:])
            words = text.split(" ")
            for place, word in enumerate(words):
                self.compare(" ".join(words[:place] + [word] + words[place:]))
                self.compare(" ".join(words[:place] + words[place + 1:]))

    def test_all_short_texts(self):
        words = ["(show", "(send", "(both", "0", "1", "0)", "1)", "0))", "(show 0)", "", "4)", "-1)"]
        for length in range(1, 5):
            for chosen in itertools.product(words, repeat=length):
                self.compare(" ".join(chosen))


class Home(unittest.TestCase):
    def test_each_function_is_defined_there(self):
        for name in ("is_process", "is_payload", "write_payload", "read_payload"):
            with self.subTest(name=name):
                self.assertEqual(getattr(payloads, name).__module__, "firmground.payloads")

    def test_arguments_by_name(self):
        self.assertIs(is_process(count=2, value=1), True)
        self.assertIs(is_payload(count=2, value=("show", 0)), True)
        self.assertEqual(write_payload(count=2, payload=("show", 0)), "(show 0)")
        self.assertEqual(read_payload(count=2, text="(show 0)"), ("show", 0))
