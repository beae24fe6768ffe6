"""Points 5, 6, 7, 700, 717 and 760: many worlds, with acts of every kind."""

import random
import unittest

from firmground.judge import judge, run_fault
from firmground.machine import START, run
from firmground.schedule import act_line, run_schedule
from firmground.world import World
from tests.group import Group
from tests.making import SHOW, both, many, world_looks
from tests.storm import Storm


class Shown:
    """A world as a Storm and a Watch want a group to be."""

    def __init__(self, count):
        self.count = count
        self.world = World(count)
        self.tapes = [self.world.tape(each) for each in range(count)]
        self.desk = self.world.desk()

    def act(self, step):
        self.world.act(step)

    @property
    def processes(self):
        return [self.world.process(each) if self.world.is_up(each) else None for each in range(self.count)]

    @property
    def packets(self):
        return self.world.packets()

    def events(self):
        return self.world.history().events()


def schedule_of(count, acts):
    return "\n".join([f"group {count}"] + [act_line(act) for act in acts])


class Worlds(unittest.TestCase):
    def storm(self, seed, count):
        return Storm(self, Shown(count), random.Random(seed))

    def check_no_fault_but_of_the_run(self, group):
        faults = judge(group.events())
        self.assertLessEqual({fault[0] for fault in faults}, {"run"})
        return faults

    def test_bad_times_and_then_calm(self):
        undone = runs_with_faults = 0
        for seed in range(42):
            count = 1 + seed % 6
            storm = self.storm(seed, count)
            storm.bad_times(steps=(60, 150, 300)[seed // 6 % 3], submits=16)
            runs_with_faults += self.check_no_fault_but_of_the_run(storm.group) != []
            storm.watch.check_committed_run()
            world = storm.group.world
            world.act(("calm", 12))
            self.assertEqual(judge(world.history().events()), [])
            world.act(("calm", 68))
            self.assertEqual(judge(world.history().events()), [])
            self.check_all_done(world, count)
            undone += storm.watch.undone
        self.assertGreater(undone, 100)
        # What run_fault looks at does happen in bad times.
        self.assertGreater(runs_with_faults, 0)

    def check_all_done(self, world, count):
        """As Watch does, but for a world alone, behind acts that take and undo in one."""
        desk, pasts = world.desk(), [world.process(each).inputs() for each in range(count)]
        for me in range(count):
            process = world.process(me)
            self.assertEqual(process.committed(), len(pasts[me]))
            self.assertEqual([row[2] for row in pasts[me] if row[0] < 0], desk.submitted(me))
            self.assertEqual(desk.got(me), len(desk.submitted(me)))
            self.assertEqual(desk.shown(me), process.outputs())
        for sender in range(count):
            sends = sends_of(pasts[sender])
            for receiver in range(count):
                self.assertEqual([row[2] for row in pasts[receiver] if row[0] == sender],
                                 [payload for to, payload in sends if to == receiver])

    def test_watched_through_the_calm_too(self):
        for seed in range(500, 518):
            storm = self.storm(seed, 1 + seed % 6)
            storm.bad_times(steps=150, submits=10)
            storm.timely(12)
            self.assertEqual(storm.watch.depending_on_lost(), [])
            self.assertEqual(judge(storm.group.events()), [])
            storm.timely(68)
            self.assertEqual(judge(storm.group.events()), [])
            storm.watch.check_committed_run()
            storm.watch.check_all_done()

    def test_no_fault_where_no_state_depends_on_a_lost_one(self):
        faultless = 0
        for seed in range(600, 620):
            storm = self.storm(seed, 2 + seed % 3)
            for _ in range(15):
                storm.bad_times(steps=10, submits=2)
                if storm.watch.depending_on_lost():
                    self.check_no_fault_but_of_the_run(storm.group)
                else:
                    self.assertEqual(judge(storm.group.events()), [])
                    faultless += 1
        self.assertGreater(faultless, 100)

    def test_beside_a_group_that_does_the_same(self):
        for seed in range(700, 724):
            count = 1 + seed % 4
            storm = self.storm(seed, count)
            storm.bad_times(steps=150, submits=12)
            group, world = Group(count), World(count)
            more = [("round",)] + [("arm", process, 5) for process in range(count)]
            for act in storm.acts + more + [("calm", 9), ("tick", 3), ("round",)]:
                world.act(act)
                group.act(act)
                self.assertEqual(world.packets(), group.packets)
                self.assertEqual(world.time(), group.time)
            self.assertEqual(world.history().events(), group.events)
            for each in range(count):
                self.assertEqual(world.is_up(each), group.processes[each] is not None)
                self.assertEqual(world.desk().shown(each), group.desk.shown(each))

    def test_the_same_schedule_leads_to_the_same_world(self):
        for seed in range(800, 812):
            count = 1 + seed % 6
            storm = self.storm(seed, count)
            storm.bad_times(steps=120, submits=8)
            text = schedule_of(count, storm.acts)
            for _ in range(2):
                self.assertEqual(world_looks(run_schedule(text), count), world_looks(storm.group.world, count))


def sends_of(inputs):
    """What the inputs of a past send, as pairs of a receiver and a payload."""
    cells, found = START, []
    for row in inputs:
        cells, sends, _ = run(cells, row[2])
        found += sends
    return found


class Limits(unittest.TestCase):
    def test_forty_ends_that_nobody_has_heard_of(self):
        world = World(6)
        for each in (1, 2, 3, 4, 5):
            world.act(("submit", 0, ("send", each, ("send", 0, SHOW))))
        for _ in range(3):
            world.act(("round",))
        for _ in range(40):
            world.act(("crash", 0))
            world.act(("start", 0, 0))
        while world.packets():
            world.act(("lose", 0))
        self.assertEqual(run_fault(world.history().events()), ("run", 1, 0, 1))
        world.act(("calm", 12))
        self.assertEqual(judge(world.history().events()), [])
        self.assertEqual([world.process(each).ends(0) for each in range(6)], [[0] * 40] * 6)
        world.act(("calm", 68))
        self.assertEqual([world.process(each).committed() for each in range(6)], [10, 1, 1, 1, 1, 1])
        self.assertEqual(world.desk().shown(0), ["0"] * 5)

    def test_a_full_window_and_a_hundred_outputs(self):
        world = World(2)
        for _ in range(8):
            world.act(("submit", 0, both(many(SHOW, 3), ("send", 1, ("send", 0, ("send", 1, SHOW))))))
        world.act(("submit", 1, many(SHOW, 5)))
        while world.packets():
            world.act(("lose", 0))
        world.act(("calm", 80))
        self.assertEqual([world.process(each).committed() for each in (0, 1)], [16, 17])
        self.assertEqual([len(world.desk().shown(each)) for each in (0, 1)], [64, 40])
        self.assertEqual(judge(world.history().events()), [])

    def test_long_runs(self):
        world = World(3)
        for number in range(300):
            world.act(("submit", number % 3, ("send", (number + 1) % 3, ("add", 0, 1))))
            world.act(("calm", 1))
        world.act(("calm", 80))
        self.assertEqual([world.process(each).committed() for each in range(3)], [200] * 3)
        self.assertEqual([world.process(each).cells()[0] for each in range(3)], [100] * 3)
        self.assertEqual(judge(world.history().events()), [])
