"""Points 100, 101, 106 (integers) and 109: firmground.texts."""

import unittest

from firmground import texts
from firmground.texts import integer_of, is_integer, is_output, is_printable


class Touchy:
    """Raises at whatever is done with it."""

    def refuse(self, *rest):
        raise RuntimeError("touched")

    __eq__ = __ne__ = __lt__ = __le__ = __gt__ = __ge__ = refuse
    __bool__ = __len__ = __iter__ = __int__ = __index__ = __str__ = __repr__ = refuse
    __hash__ = __contains__ = __getitem__ = refuse
    __class__ = property(refuse)


class PassesForString:
    __class__ = str


class PassesForInteger:
    __class__ = int


class TouchyString(str):
    def refuse(self, *rest):
        raise RuntimeError("touched")

    __len__ = __iter__ = __eq__ = __getitem__ = refuse
    __hash__ = None


class TouchyInteger(int):
    def refuse(self, *rest):
        raise RuntimeError("touched")

    __lt__ = __le__ = __gt__ = __ge__ = __eq__ = refuse
    __hash__ = None


def other_kinds():
    """Values that are neither strings nor integers."""
    return [
        None, True, False, b"", b"a", bytearray(b"a"), [], ["a"], [1], (), ("a",), (1,),
        {}, {"a": 1}, {1: "a"}, set(), {"a"}, frozenset(), 1.0, 0.0, float("nan"), 1j,
        object(), object, str, int, len, lambda: "a", iter("ab"), range(3), ...,
        NotImplemented, ValueError("a"), Touchy(), PassesForString(), PassesForInteger(),
        TouchyString("a"), TouchyInteger(1),
    ]


class Answers(unittest.TestCase):
    def check(self, function, value, expected, *more):
        # Not in a message: some of the values can't be shown.
        if function(value, *more) is not expected:
            self.fail(f"{function.__name__} of a {type(value).__name__} is not {expected}")


class Printable(Answers):
    def test_strings(self):
        for value in ("", " ", "~", "a", "Z9", "set 0 -5", "(show 0)", "\"'\\{}", "x" * 100000):
            self.check(is_printable, value, True)

    def test_each_character(self):
        good = set(range(32, 127)) - {37}
        for code in list(range(1200)) + [0x2028, 0xD800, 0xDFFF, 0xFF10, 0xFFFD, 0x10FFFF]:
            with self.subTest(code=code):
                self.check(is_printable, chr(code), code in good)

    def test_one_bad_character_anywhere(self):
        for code in (0, 9, 10, 13, 31, 37, 127, 128, 160, 233, 0x0663, 0x1F600):
            for text in ("{}ab", "a{}b", "ab{}"):
                with self.subTest(code=code, text=text):
                    self.check(is_printable, text.format(chr(code)), False)

    def test_other_kinds(self):
        for value in other_kinds() + [0, 1, -1, 65]:
            self.check(is_printable, value, False)


class Output(Answers):
    def test_lengths(self):
        for length in (0, 1, 2, 39, 40):
            with self.subTest(length=length):
                self.check(is_output, "~" * length, True)
        for length in (41, 42, 80, 100000):
            with self.subTest(length=length):
                self.check(is_output, "~" * length, False)

    def test_characters(self):
        good = set(range(32, 127)) - {37}
        for code in range(300):
            with self.subTest(code=code):
                self.check(is_output, chr(code), code in good)
                self.check(is_output, "a" * 39 + chr(code), code in good)
                self.check(is_output, chr(code) + "a" * 40, False)

    def test_other_kinds(self):
        for value in other_kinds() + [0, 1, -1, 65]:
            self.check(is_output, value, False)


class Integer(Answers):
    def test_both_ends_and_one_beyond_each(self):
        for least, greatest in ((0, 3), (-5, 5), (-7, -2), (1, 10 ** 12), (-10 ** 6, 10 ** 6)):
            with self.subTest(least=least, greatest=greatest):
                for value in (least, least + 1, greatest - 1, greatest):
                    self.check(is_integer, value, True, least, greatest)
                for value in (least - 1, greatest + 1, least - 10 ** 9, greatest + 10 ** 30):
                    self.check(is_integer, value, False, least, greatest)

    def test_a_range_of_one_and_an_empty_one(self):
        self.check(is_integer, 4, True, 4, 4)
        self.check(is_integer, 3, False, 4, 4)
        self.check(is_integer, 5, False, 4, 4)
        for value in (3, 4, 5):
            self.check(is_integer, value, False, 5, 3)

    def test_zero_and_great_numbers(self):
        self.check(is_integer, 0, True, -1, 1)
        self.check(is_integer, 0, True, 0, 0)
        self.check(is_integer, 10 ** 5000, False, 0, 10 ** 12)
        self.check(is_integer, -10 ** 5000, False, -10, 10)

    def test_true_and_false_are_none(self):
        for value in (True, False):
            self.check(is_integer, value, False, 0, 1)
            self.check(is_integer, value, False, -10, 10)

    def test_other_kinds(self):
        for value in other_kinds() + ["", "1", "0", "a", " "]:
            self.check(is_integer, value, False, -10, 10)


class IntegerOf(unittest.TestCase):
    def check(self, word, expected):
        with self.subTest(word=word[:40]):
            found = integer_of(word)
            self.assertEqual(found, expected)
            self.assertIs(type(found), type(expected))

    def test_the_examples_of_the_document(self):
        words = ("-17", "0", "-0", "007", "")
        self.assertEqual([integer_of(word) for word in words], [-17, 0, None, None, None])

    def test_what_is_written_is_read(self):
        for number in list(range(-1200, 1201)) + [10 ** 6, -10 ** 6, 10 ** 12, -10 ** 12]:
            self.check(str(number), number)

    def test_thirteen_and_fourteen_digits(self):
        self.check("1000000000000", 10 ** 12)
        self.check("9999999999999", 10 ** 13 - 1)
        self.check("-9999999999999", 1 - 10 ** 13)
        for word in ("10000000000000", "-10000000000000", "99999999999999", "-99999999999999"):
            self.check(word, None)

    def test_far_too_many_digits(self):
        for word in ("9" * 5000, "-" + "9" * 5000, "0" * 5000):
            self.check(word, None)

    def test_leading_zeros(self):
        for word in ("00", "01", "-0", "-00", "-01", "0000000000001", "00000000000001"):
            self.check(word, None)

    def test_signs(self):
        for word in ("-", "+", "+1", "+0", "--1", "-+1", "+-1", "1-", "1+", "-1-", "- 1", "\u22121"):
            self.check(word, None)

    def test_spaces_and_line_feeds(self):
        for space in (" ", "\n", "\t", "\r", "\x0b", "\x1f", "\x85", "\xa0", "\u3000"):
            for word in (space, space + "1", "1" + space, "1" + space + "2", space + "-1", "-1" + space):
                self.check(word, None)

    def test_other_characters(self):
        for word in ("a", "1a", "a1", "0x1", "0b1", "1_000", "1,000", "1.0", "1.", ".1", "1e3",
                     "None", "True", "\x00", "1\x00"):
            self.check(word, None)

    def test_digits_beyond_ascii(self):
        for word in ("\u0663", "\uff11", "\u00b2", "\u00bd", "\u0967", "1\u0663", "-\uff11", "\U0001d7d9"):
            self.check(word, None)


class Home(unittest.TestCase):
    def test_each_function_is_defined_there(self):
        for name in ("is_printable", "is_integer", "is_output", "integer_of"):
            with self.subTest(name=name):
                self.assertEqual(getattr(texts, name).__module__, "firmground.texts")

    def test_arguments_by_name(self):
        self.assertIs(is_printable(value="a"), True)
        self.assertIs(is_integer(value=2, least=1, greatest=3), True)
        self.assertIs(is_output(value="a"), True)
        self.assertEqual(integer_of(word="5"), 5)
