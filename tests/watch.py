"""Watches a run of processes, and checks what must always hold (points 5, 7, 616, 617 and 717).

It keeps for each state, by its name (process, version, count), the set of all states that
it depends on, as the inputs of the run say. So it trusts neither ends nor merged clocks.
"""

from firmground.past import Past


def alive_records(records):
    """What a tape says: the inputs that stay, and the names of all inputs that stand on it."""
    version, past, names = 0, [], []
    for record in records:
        if record[0] == "input":
            past.append(record[1:] + (version,))
            names.append((version, len(past)))
        elif record[0] == "end":
            del past[record[2]:]
            version += 1
    return past, names


class Watch:
    """The group has a count, processes (None if down), tapes and a desk."""

    def __init__(self, test, group):
        self.test, self.group = test, group
        self.inputs = {}                                    # of each state ever reached
        self.bits = {}                                      # of each one its own bit
        self.depends = {}                                   # of each one those that it depends on
        self.lost = 0
        self.undone = 0
        self.rows = [[] for _ in range(group.count)]        # the names of the states of each past
        self.firm_rows = [[] for _ in range(group.count)]   # those that were ever committed
        self.counts = [0] * group.count                     # the committed counts
        self.objects = [None] * group.count
        self.checked = [None] * group.count
        self.look()

    def look(self):
        """Look at the group behind a step in which no process both takes and undoes."""
        for me, process in enumerate(self.group.processes):
            if process is not None:
                self.look_at(me, process)

    def look_at(self, me, process):
        test, old, found = self.test, self.rows[me], process.inputs()
        said, written = alive_records(self.group.tapes[me].records())
        test.assertEqual(found, said)                       # point 717
        names = [(me, row[4], at + 1) for at, row in enumerate(found)]
        if self.objects[me] is not process:
            # What is not on the tape any more was lost in the crash.
            for name in old:
                if name[1:] not in written:
                    self.lost |= self.bits[name]
            self.objects[me], self.counts[me] = process, 0
        common = min(len(old), len(names))
        test.assertEqual(names[:common], old[:common])
        for at in range(common, len(names)):
            self.reach(names, found, at)
        for name in old[common:]:
            test.assertTrue(self.depends[name] & self.lost, name)   # point 5, promise 1
            self.undone += 1
        self.rows[me] = names
        self.check_committed(me, process)
        self.check_known_ends(me, process)

    def reach(self, names, found, at):
        """A state is reached for the first time."""
        name, (sender, _, _, clock, _) = names[at], found[at]
        self.test.assertNotIn(name, self.bits)              # point 616
        self.inputs[name] = found[at]
        self.bits[name] = 1 << len(self.bits)
        self.depends[name] = self.bits[name]
        if at:
            self.depends[name] |= self.depends[names[at - 1]]
        if sender >= 0:
            self.depends[name] |= self.depends[(sender,) + clock[sender]]

    def check_committed(self, me, process):
        """Point 5, promise 2, and point 605."""
        test, names, before = self.test, self.rows[me], self.firm_rows[me]
        count = process.committed()
        test.assertLessEqual(self.counts[me], count)
        test.assertLessEqual(count, len(names))
        self.counts[me] = count
        test.assertEqual(names[:len(before)], before)
        self.firm_rows[me] = max(before, names[:count], key=len)
        if count:
            test.assertFalse(self.depends[names[count - 1]] & self.lost)
        shown = self.group.desk.shown(me)
        test.assertEqual(process.outputs()[:len(shown)], shown)

    def check_known_ends(self, me, process):
        """Point 617: no state of the past depends on one that a known end undid."""
        ends = [process.ends(other) for other in range(self.group.count)]
        if not self.rows[me] or self.checked[me] == (ends, self.rows[me][-1]):
            return
        self.checked[me] = (ends, self.rows[me][-1])
        depends = self.depends[self.rows[me][-1]]
        for (other, version, count), bit in self.bits.items():
            if depends & bit:
                least = min(ends[other][version:], default=count)
                self.test.assertGreaterEqual(least, count, (me, other, version, count))

    def depending_on_lost(self):
        """The states of all pasts that depend on a lost one."""
        return [name for row in self.rows for name in row if self.depends[name] & self.lost]

    def check_committed_run(self):
        """Point 5, promise 3: the states that were ever committed are one run."""
        count = self.group.count
        for me in range(count):
            from_desk = []
            for name in self.firm_rows[me]:
                sender, number, payload, clock, _ = self.inputs[name]
                if sender < 0:
                    from_desk.append((number, payload))
                    continue
                self.test.assertFalse(self.depends[(sender,) + clock[sender]] & self.lost)
                self.test.assertEqual(self.sends(sender, me)[number - 1], payload)
            submitted = list(enumerate(self.group.desk.submitted(me), 1))
            self.test.assertEqual(from_desk, submitted[:len(from_desk)])

    def sends(self, sender, receiver):
        """The payloads that the past of a process sends to another one, or to itself."""
        past = Past(sender, self.group.count)
        for name in self.rows[sender]:
            past.take(*self.inputs[name])
        return [payload for _, payload, _ in past.sends(receiver)]

    def check_all_done(self):
        """All that was submitted is taken and committed, with all that it leads to, and shown."""
        test, desk = self.test, self.group.desk
        for me, process in enumerate(self.group.processes):
            inputs = process.inputs()
            test.assertEqual(process.committed(), len(inputs))
            test.assertEqual(desk.shown(me), process.outputs())
            test.assertEqual(desk.got(me), len(desk.submitted(me)))
            test.assertEqual([row[2] for row in inputs if row[0] < 0], desk.submitted(me))
            for sender in range(self.group.count):
                test.assertEqual([row[2] for row in inputs if row[0] == sender], self.sends(sender, me))
