"""Points 100, 101, 106 (integers) and 109: firmground.texts."""

import unittest

from firmground import texts
from firmground.texts import integer_of, is_integer, is_output, is_printable
from tests.values import Answers, other_kinds


class Printable(Answers):
    def test_strings(self):
        for value in ("", " ", "~", "a", "Z9", "set 0 -5", "(show 0)", "\"'\\{}", "x" * 100000):
            self.check(is_printable, True, value)

    def test_each_character(self):
        good = set(range(32, 127)) - {37}
        for code in list(range(1200)) + [0x2028, 0xD800, 0xDFFF, 0xFF10, 0xFFFD, 0x10FFFF]:
            with self.subTest(code=code):
                self.check(is_printable, code in good, chr(code))

    def test_one_bad_character_anywhere(self):
        for code in (0, 9, 10, 13, 31, 37, 127, 128, 160, 233, 0x0663, 0x1F600):
            for text in ("{}ab", "a{}b", "ab{}"):
                with self.subTest(code=code, text=text):
                    self.check(is_printable, False, text.format(chr(code)))

    def test_other_kinds(self):
        for value in other_kinds() + [0, 1, -1, 65]:
            self.check(is_printable, False, value)


class Output(Answers):
    def test_lengths(self):
        for length in (0, 1, 2, 39, 40):
            with self.subTest(length=length):
                self.check(is_output, True, "~" * length)
        for length in (41, 42, 80, 100000):
            with self.subTest(length=length):
                self.check(is_output, False, "~" * length)

    def test_characters(self):
        good = set(range(32, 127)) - {37}
        for code in range(300):
            with self.subTest(code=code):
                self.check(is_output, code in good, chr(code))
                self.check(is_output, code in good, "a" * 39 + chr(code))
                self.check(is_output, False, chr(code) + "a" * 40)

    def test_other_kinds(self):
        for value in other_kinds() + [0, 1, -1, 65]:
            self.check(is_output, False, value)


class Integer(Answers):
    def test_both_ends_and_one_beyond_each(self):
        for least, greatest in ((0, 3), (-5, 5), (-7, -2), (1, 10 ** 12), (-10 ** 6, 10 ** 6)):
            with self.subTest(least=least, greatest=greatest):
                for value in (least, least + 1, greatest - 1, greatest):
                    self.check(is_integer, True, value, least, greatest)
                for value in (least - 1, greatest + 1, least - 10 ** 9, greatest + 10 ** 30):
                    self.check(is_integer, False, value, least, greatest)

    def test_a_range_of_one_and_an_empty_one(self):
        self.check(is_integer, True, 4, 4, 4)
        self.check(is_integer, False, 3, 4, 4)
        self.check(is_integer, False, 5, 4, 4)
        for value in (3, 4, 5):
            self.check(is_integer, False, value, 5, 3)

    def test_zero_and_great_numbers(self):
        self.check(is_integer, True, 0, -1, 1)
        self.check(is_integer, True, 0, 0, 0)
        self.check(is_integer, False, 10 ** 5000, 0, 10 ** 12)
        self.check(is_integer, False, -10 ** 5000, -10, 10)

    def test_true_and_false_are_none(self):
        for value in (True, False):
            self.check(is_integer, False, value, 0, 1)
            self.check(is_integer, False, value, -10, 10)

    def test_other_kinds(self):
        for value in other_kinds() + ["", "1", "0", "a", " "]:
            self.check(is_integer, False, value, -10, 10)


class IntegerOf(unittest.TestCase):
    def check(self, word, expected):
        with self.subTest(word=word[:40]):
            found = integer_of(word)
            self.assertEqual(found, expected)
            self.assertIs(type(found), type(expected))

    def test_the_examples_of_the_document(self):
        words = ("-17", "0", "-0", "007", "")
        self.assertEqual([integer_of(word) for word in words], [-17, 0, None, None, None])

    def test_what_is_written_is_read(self):
        for number in list(range(-1200, 1201)) + [10 ** 6, -10 ** 6, 10 ** 12, -10 ** 12]:
            self.check(str(number), number)

    def test_thirteen_and_fourteen_digits(self):
        self.check("1000000000000", 10 ** 12)
        self.check("9999999999999", 10 ** 13 - 1)
        self.check("-9999999999999", 1 - 10 ** 13)
        for word in ("10000000000000", "-10000000000000", "99999999999999", "-99999999999999"):
            self.check(word, None)

    def test_far_too_many_digits(self):
        for word in ("9" * 5000, "-" + "9" * 5000, "0" * 5000):
            self.check(word, None)

    def test_leading_zeros(self):
        for word in ("00", "01", "-0", "-00", "-01", "0000000000001", "00000000000001"):
            self.check(word, None)

    def test_signs(self):
        for word in ("-", "+", "+1", "+0", "--1", "-+1", "+-1", "1-", "1+", "-1-", "- 1", "\u22121"):
            self.check(word, None)

    def test_spaces_and_line_feeds(self):
        for space in (" ", "\n", "\t", "\r", "\x0b", "\x1f", "\x85", "\xa0", "\u3000"):
            for word in (space, space + "1", "1" + space, "1" + space + "2", space + "-1", "-1" + space):
                self.check(word, None)

    def test_other_characters(self):
        for word in ("a", "1a", "a1", "0x1", "0b1", "1_000", "1,000", "1.0", "1.", ".1", "1e3",
                     "None", "True", "\x00", "1\x00"):
            self.check(word, None)

    def test_digits_beyond_ascii(self):
        for word in ("\u0663", "\uff11", "\u00b2", "\u00bd", "\u0967", "1\u0663", "-\uff11", "\U0001d7d9"):
            self.check(word, None)


class Home(unittest.TestCase):
    def test_each_function_is_defined_there(self):
        for name in ("is_printable", "is_integer", "is_output", "integer_of"):
            with self.subTest(name=name):
                self.assertEqual(getattr(texts, name).__module__, "firmground.texts")

    def test_arguments_by_name(self):
        self.assertIs(is_printable(value="a"), True)
        self.assertIs(is_integer(value=2, least=1, greatest=3), True)
        self.assertIs(is_output(value="a"), True)
        self.assertEqual(integer_of(word="5"), 5)
