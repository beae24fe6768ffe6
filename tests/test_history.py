"""Points 751 and 752: firmground.history."""

import unittest

from firmground.errors import BadSchedule
from firmground.history import History
from tests.making import SHOW
from tests.values import Touchy, deep_tuple, other_kinds

MOST = 10 ** 12
EVENTS = [("submit", 0, 1, 1, SHOW), ("take", 0, 1, 0, -1, 1, SHOW), ("undo", 3, 1, 0),
          ("show", 3, 1, 1, "0"), ("crash", 4, 1), ("start", MOST, 1, 2)]


def filled():
    history = History()
    for event in EVENTS:
        history.add(event)
    return history


class Checks(unittest.TestCase):
    def refuse(self, reason, history, event):
        before = history.events()
        try:
            history.add(event)
        except BadSchedule as error:
            self.assertEqual((error.line, error.reason), (0, reason))
        else:
            self.fail(f"no {reason}")
        self.assertEqual(history.events(), before)


class Adding(Checks):
    def test_an_empty_history(self):
        self.assertEqual(History().events(), [])

    def test_each_kind_in_order(self):
        history = History()
        for many, event in enumerate(EVENTS):
            self.assertIsNone(history.add(event))
            self.assertEqual(history.events(), EVENTS[:many + 1])

    def test_each_kind_as_the_first_one(self):
        for event in EVENTS:
            history = History()
            history.add(event)
            self.assertEqual(history.events(), [event])

    def test_the_same_event_twice(self):
        history = History()
        history.add(EVENTS[0])
        history.add(EVENTS[0])
        self.assertEqual(history.events(), [EVENTS[0]] * 2)

    def test_the_other_items_are_not_checked(self):
        for event in EVENTS:
            for item in (None, "x", -5, 10 ** 40, [], deep_tuple("both", 50)):
                history = History()
                changed = event[:2] + (item,) * (len(event) - 2)
                history.add(changed)
                self.assertEqual(history.events(), [changed])
            # Nor is anything done with them.
            History().add(event[:2] + (Touchy(),) * (len(event) - 2))

    def test_the_list_is_a_new_one(self):
        history = filled()
        found = history.events()
        found.append("x")
        found[0] = "y"
        self.assertEqual(history.events(), EVENTS)
        History().events().append("x")
        history.events().clear()
        history.add(("crash", MOST, 0))
        self.assertEqual(history.events(), EVENTS + [("crash", MOST, 0)])

    def test_histories_are_apart(self):
        filled()
        self.assertEqual(History().events(), [])


class Refused(Checks):
    def test_values_that_are_no_events(self):
        for history in (History(), filled()):
            for event in other_kinds() + [0, "crash", list(EVENTS[4]), (), ("crash",), (None, MOST, 0),
                                          (1, MOST, 0), (["crash"], MOST, 0), (("crash",), MOST, 0),
                                          (b"crash", MOST, 0), (Touchy(), MOST, 0), ("", MOST, 0),
                                          ("Crash", MOST, 0), ("arm", MOST, 0), ("tick", MOST, 0),
                                          ("undone", MOST, 0, 0)]:
                self.refuse("event", history, event)

    def test_too_few_and_too_many_items(self):
        for event in EVENTS:
            whole = event[:1] + (MOST,) + event[2:]
            for history in (History(), filled()):
                self.refuse("event", history, whole[:-1])
                self.refuse("event", history, whole + (0,))
                self.refuse("event", history, whole[:1])
                self.refuse("event", history, whole[:2])

    def test_times(self):
        for event in EVENTS:
            for time in (0, 1, MOST - 1, MOST):
                History().add((event[0], time) + event[2:])
            for time in (-1, MOST + 1, 10 ** 40, True, False, None, "0", 1.0, (), Touchy()):
                self.refuse("event", History(), (event[0], time) + event[2:])
                self.refuse("event", filled(), (event[0], time) + event[2:])

    def test_times_that_fall_stay_and_rise(self):
        for last in EVENTS:
            for event in EVENTS:
                history = History()
                history.add(last[:1] + (7,) + last[2:])
                for time in (0, 6):
                    self.refuse("time", history, event[:1] + (time,) + event[2:])
                for time in (7, 8, 8, 100):
                    history.add(event[:1] + (time,) + event[2:])
                self.refuse("time", history, event[:1] + (99,) + event[2:])
                self.assertEqual(len(history.events()), 5)

    def test_only_the_event_before_counts(self):
        history = History()
        for time in (3, 5, 5, 9):
            history.add(("crash", time, 0))
        for time in (4, 5, 8):
            self.refuse("time", history, ("crash", time, 0))
        history.add(("crash", 9, 0))

    def test_the_form_comes_before_the_time(self):
        history = filled()
        for event in (("crash", 0), ("crash", -1, 0), ("crash", 0, 0, 0), ("nothing", 0, 0),
                      ("show", 3, 1, 1), ("crash", None, 0), ["crash", 0, 0]):
            self.refuse("event", history, event)
        self.refuse("time", history, ("crash", 0, 0))


class Home(unittest.TestCase):
    def test_each_method_is_defined_in_the_class(self):
        self.assertEqual(History.__module__, "firmground.history")
        for name in ("add", "events"):
            self.assertIn(name, vars(History))

    def test_arguments_by_name(self):
        self.assertIsNone(History().add(event=EVENTS[0]))
