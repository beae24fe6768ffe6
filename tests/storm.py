"""Drives a group through bad times and good ones, one small act after the other."""

from tests.making import some_payload
from tests.watch import Watch


class Storm:
    def __init__(self, test, group, source):
        self.group, self.source = group, source
        self.watch = Watch(test, group)
        self.acts = []
        self.crashes = 0

    def act(self, *step):
        was_up = [process is not None for process in self.group.processes]
        self.group.act(step)
        self.acts.append(step)
        self.crashes += was_up > [process is not None for process in self.group.processes]
        self.watch.look()

    def bad_times(self, steps, submits, crashing=True):
        """Letters are lost, doubled, delayed and reordered, and tapes crash."""
        for _ in range(steps):
            submits -= self.bad_step(submits > 0, crashing)
        self.all_up()

    def bad_step(self, submitting, crashing):
        """One step by chance; tell whether something was submitted."""
        source, packets = self.source, len(self.group.packets)
        process = source.randrange(self.group.count)
        is_up = self.group.processes[process] is not None
        chance = source.random()
        if chance < 0.05:
            self.act("tick", 1)
        elif chance < 0.7 and packets:
            kinds = ["deliver"] * 12 + ["lose", "double", "move"]
            position = source.choice((0, source.randrange(packets)))
            self.act(source.choice(kinds), position)
        elif chance < 0.83 and submitting:
            self.act("submit", process, some_payload(source, self.group.count))
            return True
        elif chance < 0.84 and is_up:
            self.act("flush", process)
        elif chance < 0.9 and crashing:
            self.act("arm", process, source.randrange(6))
        elif chance < 0.92 and is_up and crashing:
            self.act("crash", process)
        elif not is_up:
            self.act("start", process, source.choice((0, 0, 1, 2, 5)))
        return False

    def all_up(self):
        """All processes are up, and none of them will crash any more."""
        for process in range(self.group.count):
            while self.group.processes[process] is None:
                self.act("start", process, self.source.randrange(4))
            self.act("arm", process, 10 ** 12 - 1)

    def calms(self, times):
        """Timely ticks; all that is in flight behind a tick is delivered at once, in order."""
        for _ in range(times):
            self.act("tick", 1)
            for _ in range(len(self.group.packets)):
                self.act("deliver", 0)

    def timely(self, times):
        """Timely ticks, as late and as much reordered as point 6 lets it be."""
        for _ in range(times):
            older = len(self.group.packets)
            self.act("tick", 1)
            while older:
                # Of those that were there before the tick, any first one of its pair.
                firsts = self.firsts(older)
                self.act("deliver", self.source.choice(firsts))
                older -= 1
            for _ in range(self.source.randrange(4)):
                firsts = self.firsts(len(self.group.packets))
                if firsts:
                    self.act("deliver", self.source.choice(firsts))

    def firsts(self, most):
        """The positions below most of packets before which none of the same pair stands."""
        pairs, found = set(), []
        for position, (sender, receiver, _) in enumerate(self.group.packets[:most]):
            if (sender, receiver) not in pairs:
                pairs.add((sender, receiver))
                found.append(position)
        return found
