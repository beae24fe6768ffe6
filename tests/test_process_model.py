"""Points 600 to 617: a process beside a model that works everything out from its records."""

import random
import unittest

from firmground.errors import TapeCrashed
from firmground.machine import START, run
from firmground.process import Process
from firmground.tape import Tape
from tests.making import DESK, some_payload
from tests.watch import alive_records


class Model:
    """A process, word by word; it keeps its records, what it was told, and no more."""

    def __init__(self, me, count, records):
        self.me, self.count = me, count
        self.records, self.pending = list(records), 0
        self.ticks = self.committed = self.seen = 0
        self.got, self.heard = {}, {}
        self.told = {each: [] for each in range(count)}
        if records:
            self.end_version()
        else:
            self.records.append(("start",))
        self.sync()

    def inputs(self):
        return alive_records(self.records)[0]

    def ends(self, process):
        if process == self.me:
            return [record[2] for record in self.records if record[0] == "end"]
        return [record[3] for record in self.records if record[:2] == ("other", process)]

    def version(self):
        return len(self.ends(self.me))

    def states(self):
        """Of each state the cells, the clock, the sends and the outputs."""
        found = [(START, ((0, 0),) * self.count, [], [])]
        for at, (_, _, payload, clock, version) in enumerate(self.inputs()):
            cells, sends, outputs = run(found[-1][0], payload)
            pairs = [max(pair) for pair in zip(found[-1][1], clock)]
            pairs[self.me] = (version, at + 1)
            found.append((cells, tuple(pairs), sends, outputs))
        return found

    def cells(self):
        return self.states()[-1][0]

    def clock(self):
        return self.states()[-1][1]

    def outputs(self, count=None):
        states = self.states()
        return [text for state in states[:len(states) if count is None else count + 1] for text in state[3]]

    def sends(self, receiver):
        found = []
        for state in self.states():
            for to, payload in state[2]:
                if to == receiver:
                    found.append(("pass", self.me, len(found) + 1, payload, state[1]))
        return found

    def is_dead(self, clock):
        return any(at >= version and stays < count for process, (version, count) in enumerate(clock)
                   for at, stays in enumerate(self.ends(process)))

    def is_ready(self, clock):
        return all(pair[0] <= len(self.ends(process)) for process, pair in enumerate(clock))

    def is_firm(self, clock):
        for process, (version, count) in enumerate(clock):
            other, stays = max(self.told[process], default=(-1, 0))
            ends = self.ends(process)
            alive = not any(at >= version and left < count for at, left in enumerate(ends))
            if not (count == 0 or other == version and count <= stays
                    or other > version and len(ends) >= other and alive):
                return False
        return True

    def write(self, record):
        self.records.append(record)
        self.pending += 1

    def sync(self):
        self.pending = 0
        self.told[self.me].append((self.version(), len(self.inputs())))

    def end_version(self):
        version, states = self.version(), self.states()
        stays = next((at - 1 for at, state in enumerate(states) if self.is_dead(state[1])), len(states) - 1)
        self.write(("end", version, stays))
        self.sync()
        return ("end", self.me, version, stays)

    def raise_committed(self):
        states = self.states()
        while self.committed + 1 < len(states) and self.is_firm(states[self.committed + 1][1]):
            self.committed += 1

    def shows(self, first):
        texts = self.outputs(self.committed)
        return [(DESK, ("show", self.me, at + 1, text)) for at, text in enumerate(texts) if at >= first]

    def tick(self):
        self.ticks += 1
        if self.ticks in range(4, 10 ** 6, 4):
            self.sync()
        self.raise_committed()
        letters = []
        for process in range(self.count):
            if process != self.me:
                ends = [(process, ("end", self.me, at, stays)) for at, stays in enumerate(self.ends(self.me))]
                letters += ends[self.heard.get(process, 0):][:16]
                letters.append((process, ("firm", self.me) + max(self.told[self.me])))
            letters += [(process, letter) for letter in self.sends(process)[self.got.get(process, 0):][:16]]
        return letters + self.shows(self.seen)[:16]

    def flush(self):
        self.sync()

    def receive(self, letter):
        return getattr(self, "take_" + letter[0])(*letter[1:])

    def taken(self, sender, count):
        return len([row for row in self.inputs()[:count] if row[0] == sender])

    def take_pass(self, sender, number, payload, clock):
        safe = self.taken(sender, self.committed)
        if number <= safe:
            return [(sender, ("got", self.me, safe))]
        if number != self.taken(sender, None) + 1 or not self.is_ready(clock) or self.is_dead(clock):
            return []
        before = {process: len(self.sends(process)) for process in range(self.count)}
        self.write(("input", sender, number, payload, clock))
        letters = []
        for process, _ in self.states()[-1][2]:
            letters.append((process, self.sends(process)[before[process]]))
            before[process] += 1
        return letters

    def take_got(self, sender, number):
        self.got[sender] = max(number, self.got.get(sender, 0))
        return []

    def take_heard(self, sender, known):
        self.heard[sender] = max(known, self.heard.get(sender, 0))
        return []

    def take_seen(self, _, number):
        self.seen = max(number, self.seen)
        return []

    def take_firm(self, sender, version, stays):
        before = len(self.outputs(self.committed))
        self.told[sender].append((version, stays))
        self.raise_committed()
        return self.shows(before)

    def take_end(self, sender, version, stays):
        letters = []
        if version == len(self.ends(sender)):
            self.write(("other", sender, version, stays))
            self.sync()
            if self.is_dead(self.clock()):
                told = self.end_version()
                letters = [(process, told) for process in range(self.count) if process != self.me]
        return letters + [(sender, ("heard", self.me, len(self.ends(sender))))]


class Chance:
    """Letters for one process that others might send, without regard to any run."""

    def __init__(self, source, me, count):
        self.source, self.me, self.count = source, me, count

    def some_clock(self, process, sender):
        pairs = []
        for each in range(self.count):
            known = len(process.ends(each))
            most = max([7] + process.ends(each))
            pair = (max(0, known - self.source.choice((0, 0, 0, 1, -1))), self.source.randint(0, most))
            pairs.append(pair if pair[1] and self.source.random() < 0.4 else (0, 0))
        if sender >= 0 and pairs[sender][1] == 0:
            pairs[sender] = (len(process.ends(sender)), self.source.randint(1, 6))
        return tuple(pairs)

    def letter(self, process):
        source, others = self.source, [each for each in range(self.count) if each != self.me]
        kinds = ["pass"] * 12 + ["got", "seen"] + (["end", "heard", "firm", "firm", "firm"] if others else [])
        kind = source.choice(kinds)
        if kind == "pass":
            sender = source.choice([DESK] + list(range(self.count)))
            taken = len([row for row in process.inputs() if row[0] == sender])
            number = max(1, taken + source.choice((1, 1, 1, 1, 0, -1, 2)))
            clock = self.some_clock(process, sender) if sender >= 0 else ((0, 0),) * self.count
            return (kind, sender, number, some_payload(source, self.count), clock)
        if kind == "seen":
            return (kind, DESK, source.randint(0, 6))
        if kind == "got":
            return (kind, source.randrange(self.count), source.randint(1, 6))
        sender = source.choice(others)
        if kind == "end":
            version = max(0, len(process.ends(sender)) + source.choice((0, 0, 0, -1, 1)))
            # Committed states are never undone: no end says that they are dead.
            least = max([row[3][sender][1] for row in process.inputs()[:process.committed()]], default=0)
            return (kind, sender, version, least + source.randint(0, 5))
        if kind == "heard":
            return (kind, sender, source.randint(0, len(process.ends(self.me))))
        return (kind, sender, len(process.ends(sender)), source.randint(0, 9))


class Beside(unittest.TestCase):
    def compare(self, process, tape, model):
        self.assertEqual((process.version(), process.inputs()), (model.version(), model.inputs()))
        self.assertEqual((process.cells(), process.clock()), (model.cells(), model.clock()))
        self.assertEqual((process.committed(), process.outputs()), (model.committed, model.outputs()))
        self.assertEqual((tape.records(), tape.pending()), (model.records, model.pending))
        for each in range(model.count):
            self.assertEqual(process.ends(each), model.ends(each))

    def test_many_runs(self):
        undone = committed = crashed = 0
        for seed in range(120):
            source = random.Random(seed)
            count = source.randint(1, 4)
            me = source.randrange(count)
            tape = Tape()
            process, model = Process(me, count, tape), Model(me, count, [])
            chance = Chance(source, me, count)
            for _ in range(60):
                before = process.version()
                what = source.random()
                if what < 0.1:
                    self.assertEqual(process.tick(), model.tick())
                elif what < 0.13:
                    self.assertEqual(process.flush(), model.flush())
                elif what < 0.16:
                    tape.crash(source.randint(0, 3))
                    model = Model(me, count, tape.records())
                    process = Process(me, count, tape)
                    crashed += 1
                else:
                    letter = chance.letter(process)
                    self.assertEqual(process.receive(letter), model.receive(letter), letter)
                    undone += process.version() > before
                self.compare(process, tape, model)
            committed += process.committed()
        # The runs are such that something of everything happens.
        self.assertGreater(min(undone, committed, crashed), 50)

    def test_armed_tapes(self):
        """A call that crashes leaves the first operations of the same call on the tape."""
        for seed in range(150):
            source = random.Random(seed)
            tape, same = Tape(), Tape()
            process, other = Process(0, 3, tape), Process(0, 3, same)
            chance = Chance(source, 0, 3)
            for _ in range(source.randint(0, 25)):
                letter = chance.letter(process)
                self.assertEqual(process.receive(letter), other.receive(letter))
            tape.arm(source.randint(0, 3))
            for _ in range(200):
                call, letter = source.choice(("tick", "receive", "receive")), chance.letter(other)
                given = (letter,) if call == "receive" else ()
                found = getattr(other, call)(*given)
                try:
                    self.assertEqual(getattr(process, call)(*given), found)
                except TapeCrashed:
                    break
            tape.crash(10 ** 6)
            whole = same.records()
            left = tape.records()
            self.assertEqual(whole[:len(left)], left)
            self.assertLessEqual(len(whole) - len(left), 2)
