"""Points 5, 6, 7, 616 and 617: runs of processes and a desk, whatever the network does."""

import random
import unittest

from tests.group import Group
from tests.making import SHOW, both, many
from tests.storm import Storm


class Runs(unittest.TestCase):
    def storm(self, seed, count):
        return Storm(self, Group(count), random.Random(seed))

    def test_bad_times_and_then_calm(self):
        undone = crashes = 0
        for seed in range(45):
            storm = self.storm(seed, 2 + seed % 3)
            storm.bad_times(steps=(60, 200, 400)[seed // 3 % 3], submits=20)
            storm.watch.check_committed_run()
            storm.calms(12)
            self.assertEqual(storm.watch.depending_on_lost(), [])
            storm.calms(68)
            storm.watch.check_committed_run()
            storm.watch.check_all_done()
            undone += storm.watch.undone
            crashes += storm.crashes
        self.assertGreater(min(undone, crashes), 100)

    def test_a_timely_network_may_be_late_and_reorder(self):
        for seed in range(100, 124):
            storm = self.storm(seed, 2 + seed % 3)
            storm.bad_times(steps=200, submits=10)
            storm.timely(12)
            self.assertEqual(storm.watch.depending_on_lost(), [])
            storm.timely(68)
            storm.watch.check_committed_run()
            storm.watch.check_all_done()

    def test_several_bad_times(self):
        for seed in range(200, 210):
            storm = self.storm(seed, 3)
            for _ in range(4):
                storm.bad_times(steps=80, submits=4)
                storm.calms(storm.source.randrange(15))
                storm.watch.check_committed_run()
            storm.timely(80)
            storm.watch.check_all_done()

    def test_without_a_crash_nothing_is_undone(self):
        for seed in range(300, 312):
            storm = self.storm(seed, 2 + seed % 3)
            storm.bad_times(steps=300, submits=12, crashing=False)
            storm.timely(80)
            self.assertEqual((storm.watch.undone, storm.crashes), (0, 0))
            self.assertEqual([process.version() for process in storm.group.processes],
                             [0] * storm.group.count)
            storm.watch.check_all_done()

    def test_a_process_alone(self):
        for seed in range(400, 406):
            storm = self.storm(seed, 1)
            storm.bad_times(steps=150, submits=8)
            storm.timely(12)
            self.assertEqual(storm.watch.depending_on_lost(), [])
            storm.timely(68)
            storm.watch.check_all_done()


class Limits(unittest.TestCase):
    def storm(self, count):
        return Storm(self, Group(count), random.Random(7))

    def test_forty_ends_that_nobody_has_heard_of(self):
        for delivering in ("calms", "timely"):
            storm = self.storm(4)
            # The others depend on a state of the process 0 that is lost.
            storm.act("submit", 0, both(*[("send", each, ("send", each, SHOW)) for each in (1, 2, 3)]))
            while storm.group.packets:
                storm.act("deliver", 0)
            self.assertEqual([len(process.inputs()) for process in storm.group.processes], [1, 2, 2, 2])
            for _ in range(40):
                storm.act("crash", 0)
                storm.act("start", 0, 0)
            self.assertEqual(storm.group.processes[0].version(), 40)
            while storm.group.packets:
                storm.act("lose", 0)
            self.assertEqual(len(storm.watch.depending_on_lost()), 6)
            getattr(storm, delivering)(12)
            self.assertEqual(storm.watch.depending_on_lost(), [])
            for process in storm.group.processes:
                self.assertEqual(process.ends(0), [0] * 40)
            getattr(storm, delivering)(68)
            storm.watch.check_all_done()
            self.assertEqual([len(process.inputs()) for process in storm.group.processes], [1, 2, 2, 2])

    def test_a_window_of_inputs_and_a_hundred_outputs(self):
        for delivering in ("calms", "timely"):
            storm = self.storm(3)
            for number in range(16):
                storm.act("submit", 0, ("send", 1, ("send", 2, both(SHOW, ("send", 1, SHOW)))))
            for _ in range(3):
                storm.act("submit", 1, many(SHOW, 5))
            while storm.group.packets:
                storm.act("lose", 0)
            getattr(storm, delivering)(80)
            storm.watch.check_all_done()
            self.assertEqual([len(process.inputs()) for process in storm.group.processes], [16, 35, 16])
            self.assertEqual(len(storm.group.desk.shown(1)), 96 + 16)

    def test_sends_that_go_round(self):
        storm = self.storm(4)
        payload = SHOW
        for each in (0, 3, 2, 1, 0):
            payload = ("send", each, payload)
        for process in range(4):
            for _ in range(3):
                storm.act("submit", process, payload)
        storm.timely(80)
        storm.watch.check_all_done()
        self.assertEqual(len(storm.group.desk.shown(0)), 12)


class Chains(unittest.TestCase):
    def test_a_lost_state_is_undone_through_many_letters(self):
        storm = Storm(self, Group(4), random.Random(1))
        storm.act("submit", 3, SHOW)
        storm.act("submit", 0, ("send", 1, ("send", 2, ("send", 3, ("show", 1)))))
        while storm.group.packets:
            storm.act("deliver", 0)
        self.assertEqual([len(process.inputs()) for process in storm.group.processes], [1, 1, 1, 2])
        storm.act("flush", 3)
        storm.act("flush", 2)
        storm.act("crash", 0)
        storm.act("start", 0, 0)
        # Though they are durable where they are, all that depend on the lost state are undone.
        storm.calms(2)
        self.assertEqual(storm.group.processes[3].inputs()[0][2], SHOW)
        self.assertEqual(storm.group.processes[3].ends(3), [1])
        self.assertEqual(storm.group.processes[2].ends(2), [0])
        self.assertEqual(storm.watch.undone, 4)
        storm.calms(78)
        storm.watch.check_all_done()
        self.assertEqual(storm.group.desk.shown(3), ["0", "0"])

    def test_a_durable_state_is_not_undone(self):
        storm = Storm(self, Group(2), random.Random(1))
        storm.act("submit", 0, ("send", 1, SHOW))
        for _ in range(2):
            storm.act("deliver", 0)
        storm.act("flush", 0)
        storm.act("crash", 0)
        storm.act("start", 0, 0)
        storm.calms(12)
        self.assertEqual((storm.watch.undone, storm.group.desk.shown(1)), (0, ["0"]))
        self.assertEqual([process.version() for process in storm.group.processes], [1, 0])
