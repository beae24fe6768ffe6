"""Points 700 and 714 to 716: firmground.schedule."""

import unittest

from firmground import schedule as module
from firmground.errors import BadSchedule
from firmground.schedule import act_line, parse_schedule, run_schedule
from firmground.world import World
from tests.making import SHOW, both, world_looks
from tests.values import Touchy, deep_tuple, other_kinds

MOST = 10 ** 12
DEEP = deep_tuple("both", 5)
LINES = [
    ("tick 1", ("tick", 1)),
    ("tick 1000", ("tick", 1000)),
    ("calm 12", ("calm", 12)),
    ("round", ("round",)),
    ("deliver 0", ("deliver", 0)),
    ("lose 3", ("lose", 3)),
    ("double 10", ("double", 10)),
    ("move 999999999999", ("move", 999999999999)),
    ("submit 0 (show 0)", ("submit", 0, SHOW)),
    ("submit 1 (set 1 -5)", ("submit", 1, ("set", 1, -5))),
    ("submit 12 (send 9 (if 0 (show 1) (copy 2 3)))",
     ("submit", 12, ("send", 9, ("if", 0, ("show", 1), ("copy", 2, 3))))),
    ("flush 0", ("flush", 0)),
    ("crash 7", ("crash", 7)),
    ("arm 2 0", ("arm", 2, 0)),
    ("start 1 999999999999", ("start", 1, 999999999999)),
]


class Checks(unittest.TestCase):
    def refuse(self, line, reason, function, given):
        with self.subTest(line=line, reason=reason):
            try:
                function(given)
            except BadSchedule as error:
                self.assertEqual((error.line, error.reason), (line, reason))
            else:
                self.fail("it was not refused")


class Lines(Checks):
    def test_the_example_of_the_document(self):
        self.assertEqual(act_line(("submit", 0, ("set", 1, -5))), "submit 0 (set 1 -5)")

    def test_each_kind_both_ways(self):
        for line, act in LINES:
            with self.subTest(line=line):
                self.assertEqual(act_line(act), line)
                self.assertEqual(parse_schedule("group 1\n" + line), (1, 1, [(2, act)]))

    def test_the_deepest_payload(self):
        line = act_line(("submit", 0, DEEP))
        self.assertEqual(parse_schedule("group 10\n" + line)[2], [(2, ("submit", 0, DEEP))])
        self.refuse(0, "act", act_line, ("submit", 0, ("both", DEEP, DEEP)))

    def test_what_check_act_refuses_has_no_line(self):
        for act in other_kinds() + [(), ("tick",), ("tick", 0), ("tick", 1001), ("calm", 0), ("round", 1),
                                    ("deliver", -1), ("deliver", MOST + 1), ("group", 2), ("stop",),
                                    ("arm", 0, None), ("start", 0, True), ("submit", 0), ["round"],
                                    "round", ("lose", Touchy())]:
            self.refuse(0, "act", act_line, act)

    def test_other_acts_that_have_no_line(self):
        for act in (("deliver", MOST), ("arm", 0, MOST), ("start", 0, MOST), ("move", MOST)):
            self.refuse(0, "act", act_line, act)
        for process in [-1, MOST, 10 ** 40, True, None, "0", 1.0, (), Touchy()]:
            for act in (("submit", process, SHOW), ("flush", process), ("crash", process),
                        ("arm", process, 0), ("start", process, 0)):
                self.refuse(0, "act", act_line, act)
        for payload in [None, 0, 5, "(show 0)", ("show", 4), ("send", 10, SHOW), ("set", 0, 10 ** 6 + 1),
                        deep_tuple("both", 2000), Touchy(), ["show", 0]]:
            self.refuse(0, "act", act_line, ("submit", 0, payload))

    def test_acts_that_no_world_can_perform_have_lines(self):
        for line, act in (("flush 11", ("flush", 11)), ("crash 999999999999", ("crash", MOST - 1)),
                          ("submit 50 (send 9 (show 0))", ("submit", 50, ("send", 9, SHOW)))):
            self.assertEqual(act_line(act), line)


class Parsing(Checks):
    def test_all_lines_together(self):
        text = "\n".join(["group 3"] + [line for line, _ in LINES])
        self.assertEqual(parse_schedule(text),
                         (1, 3, [(at + 2, act) for at, (_, act) in enumerate(LINES)]))

    def test_the_kinds_of_what_is_returned(self):
        found = parse_schedule("group 3\nround\nflush 1")
        self.assertIs(type(found), tuple)
        self.assertIs(type(found[2]), list)
        self.assertEqual([type(each) for each in found[2]], [tuple] * 2)
        found[2].clear()
        self.assertEqual(parse_schedule("group 3\nround")[2], [(2, ("round",))])

    def test_only_a_group_line(self):
        for text in ("group 2", "group 2\n", "group 2\n\n\n"):
            self.assertEqual(parse_schedule(text), (1, 2, []))

    def test_comments_and_empty_lines(self):
        text = "\n# a group\n\n#\ngroup 2\n\n# group 5\n#round\nround\n\n#\nflush 1\n\n"
        self.assertEqual(parse_schedule(text), (5, 2, [(9, ("round",)), (12, ("flush", 1))]))
        self.assertEqual(parse_schedule("# nothing (show \ngroup 1"), (2, 1, []))

    def test_any_count_of_a_group(self):
        for count in (0, 1, 10, 11, 999999999999):
            self.assertEqual(parse_schedule(f"group {count}"), (1, count, []))

    def test_acts_that_are_not_possible(self):
        for line, act in (("tick 0", ("tick", 0)), ("calm 1001", ("calm", 1001)), ("flush 99", ("flush", 99)),
                          ("tick 999999999999", ("tick", 999999999999)), ("deliver 5", ("deliver", 5)),
                          ("submit 3 (send 9 (show 0))", ("submit", 3, ("send", 9, SHOW)))):
            self.assertEqual(parse_schedule("group 1\n" + line), (1, 1, [(2, act)]))


class Refused(Checks):
    def test_a_text_of_nothing(self):
        for text in ("", "\n", "\n\n\n", "# a comment", "#\n\n# group 2\n", "#group 2"):
            self.refuse(0, "group", parse_schedule, text)

    def test_characters(self):
        for char in ("\t", "\r", "\x00", "\x1f", "\x7f", "\x0b", "\x0c", "\x1c", "\x85", "\u2028", "\xe9",
                     "\u0663", "\U0001f600", chr(37)):
            for text, line in ((char, 1), ("group 2" + char, 1), ("# " + char + "\ngroup 2", 1),
                               ("group 2\n" + char, 2), ("group 2\n#" + char, 2),
                               ("group 2\n\nround\nround" + char + "\nround", 4),
                               ("group 2\nsubmit 0 (show 0" + char + ")", 2), ("group 2\n\n" + char, 3)):
                self.refuse(line, "character", parse_schedule, text)

    def test_every_printable_character_may_stand_in_a_comment(self):
        text = "#" + "".join(chr(code) for code in range(32, 127) if code != 37)
        self.assertEqual(parse_schedule(text + "\ngroup 1\n" + text), (2, 1, []))

    def test_the_group_line(self):
        for text in ("round", "tick 1\ngroup 2", "Group 2", "groups 2", "group2", " group 2", "  ", "2 group",
                     "stop", "tick", "submit 0 (show", "-", "# a\n\nround"):
            self.refuse(3 if text.startswith("#") else 1, "group", parse_schedule, text)

    def test_a_second_group_line(self):
        for line in ("group 2", "group", "group x", "group 2 3", "group ", "group  2"):
            self.refuse(2, "group", parse_schedule, "group 2\n" + line)
            self.refuse(4, "group", parse_schedule, "group 2\nround\n\n" + line + "\nround")

    def test_verbs(self):
        for line in ("stop", "stop 1", "Tick 1", "TICK 1", "ticks 1", "tick1", " tick 1", " ", "     ", "(show 0)",
                     "group2", "rounds", "roun", "1", "submit(show 0)", " # a comment", "-", " group 2",
                     "act", "process 0"):
            self.refuse(2, "verb", parse_schedule, "group 2\n" + line)

    def test_counts(self):
        for line in ("tick", "tick 1 1", "tick 1 ", "tick  1", "calm", "round 1", "round ", "round  ",
                     "deliver", "deliver 0 0", "lose", "lose 1 ", "double", "double  0", "move", "move 1 2 3",
                     "submit", "submit 0", "flush", "flush 0 ", "flush  0", "crash", "crash 1 1", "arm", "arm 1",
                     "arm 1 2 3", "arm  1 2", "arm 1  2", "arm 1 2 ", "start", "start 1", "start 1 2 x",
                     "start x", "tick x y"):
            self.refuse(2, "count", parse_schedule, "group 2\n" + line)
        for line in ("group", "group 2 2", "group 2 ", "group  2", "group x y"):
            self.refuse(1, "count", parse_schedule, line)

    def test_numbers(self):
        words = ("", "x", "-1", "+1", "-0", "00", "01", "007", "1.0", "1e3", "0x1", "1_0", "(show",
                 "1000000000000", "0000000000000", "9999999999999", "99999999999999", "9" * 5000, "None", "-")
        for word in words:
            for line in ("tick {}", "calm {}", "deliver {}", "lose {}", "double {}", "move {}", "flush {}",
                         "crash {}", "arm {} 0", "arm 0 {}", "start {} 0", "start 0 {}", "submit {} (show 0)",
                         "submit {} x"):
                self.refuse(2, "number", parse_schedule, "group 2\n" + line.format(word))
            self.refuse(1, "number", parse_schedule, "group " + word)

    def test_twelve_and_thirteen_digits(self):
        for word in ("999999999999", "100000000000"):
            self.assertEqual(parse_schedule("group 1\nflush " + word)[2], [(2, ("flush", int(word)))])
        for word in ("1000000000000", "0999999999999", "099999999999"):
            self.refuse(2, "number", parse_schedule, "group 1\nflush " + word)

    def test_texts(self):
        for text in ("", " ", "(show 0) ", " (show 0)", "(show  0)", "( show 0)", "(show 0 )", "show 0", "(show 4)",
                     "(show 0)(show 0)", "(show 0) (show 0)", "(send 10 (show 0))", "(set 0 1000001)",
                     "(set 0 -0)", "(set 0 +1)", "(set 0 01)", "x", "(show 0", "()", "0",
                     "(set 0 1000000000000)", "(nothing 0)"):
            self.refuse(2, "text", parse_schedule, "group 2\nsubmit 0 " + text)

    def test_spaces_before_a_payload(self):
        self.refuse(2, "count", parse_schedule, "group 2\nsubmit 0")
        self.refuse(2, "count", parse_schedule, "group 2\nsubmit 0(show")
        self.refuse(2, "number", parse_schedule, "group 2\nsubmit 0(show 0)")
        self.refuse(2, "number", parse_schedule, "group 2\nsubmit  0 (show 0)")
        self.refuse(2, "number", parse_schedule, "group 2\nsubmit  (show 0)")
        self.refuse(2, "text", parse_schedule, "group 2\nsubmit 0 ")
        self.refuse(2, "text", parse_schedule, "group 2\nsubmit 0  (show 0)")

    def test_two_faults_on_one_line(self):
        for reason, text in (
                ("character", "\t"), ("character", "stop\t"), ("character", "group 2\t"), ("character", "# \t"),
                ("group", "group"), ("group", "group x"), ("verb", "stop x 1"), ("verb", " tick"),
                ("count", "tick x 1"), ("count", "arm x"), ("count", "submit x"),
                ("number", "submit x y"), ("number", "submit -1 (show 4)"), ("text", "submit 0 x")):
            self.refuse(2, reason, parse_schedule, "group 2\n" + text)
        self.refuse(1, "character", parse_schedule, "round\t")
        self.refuse(1, "group", parse_schedule, "stop x")
        self.refuse(1, "count", parse_schedule, "group x 2")

    def test_two_faults_on_two_lines(self):
        faults = {"character": "\t", "group": "group 3", "verb": "stop", "count": "tick", "number": "tick x",
                  "text": "submit 0 x"}
        for first, line in faults.items():
            for later in faults.values():
                self.refuse(3, first, parse_schedule, f"group 2\nround\n{line}\n{later}\n")
        self.refuse(1, "group", parse_schedule, "round\n\t")
        self.refuse(1, "number", parse_schedule, "group x\n\t")
        self.refuse(2, "character", parse_schedule, "\n\t\nround")

    def test_each_text_at_a_time(self):
        self.refuse(1, "character", parse_schedule, "group 2\r\nround\r\n")


class Running(Checks):
    EXAMPLE = "group 2\nsubmit 0 (both (set 0 7) (send 1 (show 0)))\ncalm 12"

    def test_the_example_of_the_document(self):
        world = run_schedule(self.EXAMPLE)
        self.assertEqual((world.process(0).cells(), world.process(0).committed(), world.desk().shown(1)),
                         ((7, 0, 0, 0), 1, ["0"]))

    def test_the_same_schedule_leads_to_the_same_world(self):
        one, other = run_schedule(self.EXAMPLE), run_schedule(self.EXAMPLE)
        self.assertIsNot(one, other)
        self.assertEqual(world_looks(one, 2), world_looks(other, 2))

    def test_the_acts_in_their_order(self):
        acts = [("submit", 0, both(SHOW, ("send", 1, SHOW))), ("round",), ("arm", 0, 0), ("tick", 4),
                ("start", 0, 1), ("round",), ("crash", 1), ("arm", 1, 2), ("start", 1, 0), ("flush", 0),
                ("submit", 1, SHOW), ("double", 0), ("move", 0), ("lose", 0), ("deliver", 0), ("calm", 3)]
        world = World(2)
        for act in acts:
            world.act(act)
        text = "# a run\ngroup 2\n" + "\n\n".join([act_line(act) for act in acts])
        self.assertEqual(world_looks(run_schedule(text), 2), world_looks(world, 2))

    def test_a_schedule_without_acts(self):
        world = run_schedule("\ngroup 3\n")
        self.assertEqual((world.time(), world.is_up(2)), (0, True))

    def test_a_world_that_cannot_be_created(self):
        for count in (0, 11, 999999999999):
            self.refuse(1, "processes", run_schedule, f"group {count}")
            self.refuse(3, "processes", run_schedule, f"# a\n\ngroup {count}\ncrash 99")
        for count in (1, 10):
            self.assertTrue(run_schedule(f"group {count}").is_up(count - 1))

    def test_acts_that_are_not_possible(self):
        for line, reason in (("tick 0", "number"), ("tick 1001", "number"), ("calm 0", "number"),
                             ("flush 2", "process"), ("submit 2 (show 0)", "process"),
                             ("submit 0 (send 2 (show 0))", "payload"), ("deliver 0", "position"),
                             ("lose 0", "position"), ("double 0", "position"), ("move 0", "position"),
                             ("flush 1", "state"), ("crash 1", "state"), ("start 0 0", "state"),
                             ("submit 2 (send 9 (show 0))", "process"), ("arm 2 0", "process"),
                             ("start 2 0", "process")):
            self.refuse(5, reason, run_schedule, "# a\ngroup 2\n\ncrash 1\n" + line + "\nflush 9")

    def test_what_is_no_schedule(self):
        for line, reason, text in ((0, "group", ""), (1, "group", "round"), (2, "verb", "group 2\nstop"),
                                   (2, "character", "group 2\n\t"), (2, "count", "group 2\ntick"),
                                   (2, "number", "group 2\ntick x"), (2, "text", "group 2\nsubmit 0 x"),
                                   # The whole text is parsed before anything is done.
                                   (3, "verb", "group 0\nflush 9\nstop"), (4, "count", "group 2\nflush 9\n\ntick")):
            self.refuse(line, reason, run_schedule, text)


class Home(unittest.TestCase):
    def test_each_function_is_defined_there(self):
        for name in ("parse_schedule", "act_line", "run_schedule"):
            with self.subTest(name=name):
                self.assertEqual(getattr(module, name).__module__, "firmground.schedule")

    def test_arguments_by_name(self):
        self.assertEqual(parse_schedule(text="group 1"), (1, 1, []))
        self.assertEqual(act_line(act=("round",)), "round")
        self.assertEqual(run_schedule(text="group 1").time(), 0)
