"""Points 708 and 712, reasons 1 and 2: firmground.acts."""

import unittest

from firmground import acts
from firmground.acts import MOST_TICKS, check_act
from firmground.errors import BadSchedule
from tests.making import SHOW
from tests.values import Touchy, deep_tuple, other_kinds

MOST = 10 ** 12
ACTS = [("tick", 1), ("tick", 1000), ("calm", 1), ("calm", 1000), ("round",), ("deliver", 0),
        ("deliver", MOST), ("lose", 0), ("double", 3), ("move", 7), ("submit", 0, SHOW), ("flush", 0),
        ("arm", 0, 0), ("arm", 3, MOST), ("crash", 9), ("start", 0, 0), ("start", 1, MOST)]


class Checks(unittest.TestCase):
    def accept(self, act):
        if check_act(act) is not None:
            self.fail("something was returned")

    def refuse(self, reason, act):
        try:
            check_act(act)
        except BadSchedule as error:
            self.assertEqual((error.line, error.reason), (0, reason))
        else:
            self.fail(f"no {reason}")


class Acts(Checks):
    def test_right_ones(self):
        for act in ACTS:
            with self.subTest(act=act):
                self.accept(act)

    def test_values_that_are_no_acts(self):
        for act in other_kinds() + [0, "", "round", [], ["round"], (), ((),), (None,), (1,), (0, 1),
                                    (("round",),), (b"round",), (["round"],), (Touchy(),), ("",),
                                    ("Round",), ("round ",), ("group", 2), ("act", 1), ("stop",),
                                    deep_tuple("tick", 2000)]:
            self.refuse("act", act)

    def test_too_few_and_too_many_items(self):
        for act in ACTS:
            self.refuse("act", act + (0,))
            self.refuse("act", act + (None, None))
            if len(act) > 1:
                self.refuse("act", act[:-1])
                self.refuse("act", act[:1])

    def test_the_form_comes_before_the_numbers(self):
        for act in (("tick", 0, 0), ("tick", None, 1), ("arm", 0, -1, 0), ("start", 0), ("round", -1),
                    ("deliver", -1, 0), ("calm", 1001, 5), ("lose",), ("nothing", -1)):
            self.refuse("act", act)


class Numbers(Checks):
    BAD = [-1, MOST + 1, 10 ** 40, True, False, "1", "", None, 1.0, 0.0, (), [1], b"1", Touchy()]

    def test_positions_counts_and_keeps(self):
        for begin in (("deliver",), ("lose",), ("double",), ("move",), ("arm", 0), ("start", 0)):
            for number in (0, 1, 1000, 1001, MOST - 1, MOST):
                self.accept(begin + (number,))
            for number in self.BAD:
                self.refuse("number", begin + (number,))
            for number in other_kinds():
                self.refuse("number", begin + (number,))

    def test_ticks_and_calms(self):
        self.assertEqual(MOST_TICKS, 1000)
        for kind in ("tick", "calm"):
            for number in (1, 2, 999, 1000):
                self.accept((kind, number))
            for number in self.BAD + [0, 1001, 1002, MOST]:
                self.refuse("number", (kind, number))
            for number in other_kinds():
                self.refuse("number", (kind, number))

    def test_items_that_are_not_checked(self):
        for item in self.BAD + other_kinds() + [50, "x", deep_tuple("both", 2000)]:
            for act in (("submit", item, SHOW), ("submit", 0, item), ("submit", item, item),
                        ("flush", item), ("crash", item), ("arm", item, 0), ("start", item, 5)):
                self.accept(act)
            for act in (("arm", item, -1), ("start", item, None)):
                self.refuse("number", act)


class Home(unittest.TestCase):
    def test_it_is_defined_there(self):
        self.assertEqual(acts.check_act.__module__, "firmground.acts")

    def test_arguments_by_name(self):
        self.assertIsNone(check_act(act=("round",)))

    def test_the_argument_stays(self):
        act = ("submit", 0, SHOW)
        check_act(act)
        self.assertEqual(act, ("submit", 0, SHOW))
