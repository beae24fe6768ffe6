"""A process, which runs ahead of its tape (points 600 to 617)."""

from firmground.ends import Ends, Firm
from firmground.errors import BadLetter, BadProcess
from firmground.letters import check_letter
from firmground.limits import DESK
from firmground.past import Past
from firmground.payloads import is_process

# At every so many ticks the tape is synced.
FLUSH = 4

# So many letters of a kind are sent again to one receiver at a tick.
WINDOW = 16


class Process:
    """A process of a group; it is told ticks and letters, and returns the letters that it sends."""

    def __init__(self, me, count, tape):
        if not is_process(count, me):
            raise BadProcess()
        self._me = me
        self._count = count
        self._tape = tape
        self._past = Past(me, count)
        self._ends = Ends(count)
        self._firm = Firm(count, self._ends)
        # The greatest pair up to which this process knows itself firm.
        self._durable = (0, 0)
        self._committed = 0
        self._ticks = 0
        # What the others told: of each process the sends it got and the ends it heard of.
        self._got = {}
        self._heard = {}
        self._seen = 0
        self._begin()

    def tick(self):
        """Do what is done at each tick (point 613); return the letters."""
        self._ticks += 1
        if self._ticks % FLUSH == 0:
            self._sync()
        self._raise_committed()
        letters = []
        for process in range(self._count):
            letters.extend(self._letters_to(process))
        texts = self._past.outputs(self._committed)
        return letters + self._shows(texts[:self._seen + WINDOW], self._seen)

    def receive(self, letter):
        """Take a letter (points 606 to 612); return the letters that it leads to."""
        try:
            check_letter(self._count, self._me, letter)
        except BadLetter:
            return []
        kind = letter[0]
        if kind == "pass":
            return self._receive_pass(letter)
        if kind == "end":
            return self._receive_end(letter)
        if kind == "firm":
            return self._receive_firm(letter)
        self._note_number(kind, letter[1], letter[2])
        return []

    def flush(self):
        """Sync the tape (point 614)."""
        self._sync()

    def version(self):
        """Return the version, which is the number of the own ends."""
        return self._ends.known(self._me)

    def inputs(self):
        """Return a new list of the inputs of the past, each with its version."""
        return self._past.inputs()

    def cells(self):
        """Return the cells of the last state."""
        return self._past.cells()

    def clock(self):
        """Return the clock of the last state."""
        return self._past.clock(self._past.size())

    def committed(self):
        """Return the committed count."""
        return self._committed

    def outputs(self):
        """Return a new list of all outputs of the past."""
        return self._past.outputs(self._past.size())

    def ends(self, process):
        """Return a new list of the counts of the known ends of a process."""
        return self._ends.row(process)

    def _begin(self):
        """Start on what the tape says (point 602)."""
        records = self._tape.records()
        if len(records) == 0:
            self._tape.append(("start",))
            self._sync()
            return
        for record in records:
            self._replay(record)
        self._end_version()

    def _replay(self, record):
        """Do what a record says (point 601)."""
        if record[0] == "input":
            _, sender, number, payload, clock = record
            self._past.take(sender, number, payload, clock, self.version())
        elif record[0] == "end":
            _, version, stays = record
            self._cut(version, stays)
        elif record[0] == "other":
            _, process, version, stays = record
            self._ends.add(process, version, stays)

    def _cut(self, version, stays):
        """Know an own end, and cut the past to its count."""
        self._ends.add(self._me, version, stays)
        self._past.cut(stays)

    def _sync(self):
        """Sync the tape."""
        self._tape.sync()
        self._know_durable()

    def _know_durable(self):
        """Note that all inputs of the past are durable (point 604)."""
        version, stays = self.version(), self._past.size()
        self._durable = (version, stays)
        self._firm.told(self._me, version, stays)

    def _end_version(self):
        """End the version (point 603); return the letter that tells it."""
        version, stays = self.version(), self._past.alive(self._ends)
        self._tape.append(("end", version, stays))
        self._tape.sync()
        self._cut(version, stays)
        self._know_durable()
        return ("end", self._me, version, stays)

    def _raise_committed(self):
        """Raise the committed count as far as the states are firm (point 605)."""
        while self._committed < self._past.size():
            if not self._firm.firm(self._past.clock(self._committed + 1)):
                return
            self._committed += 1

    def _receive_pass(self, letter):
        """Take an input, or tell that it is committed (point 607)."""
        _, sender, number, payload, clock = letter
        committed = self._past.taken(sender, self._committed)
        if number <= committed:
            return [(sender, ("got", self._me, committed))]
        if number != self._past.taken(sender, self._past.size()) + 1:
            return []
        if not self._ends.ready(clock) or self._ends.dead(clock):
            return []
        self._tape.append(("input", sender, number, payload, clock))
        receivers = self._past.take(sender, number, payload, clock, self.version())
        return self._last_sends(receivers)

    def _last_sends(self, receivers):
        """Return the letters of the sends of the last state, which go to these receivers."""
        rows = {receiver: self._past.sends(receiver) for receiver in receivers}
        letters = []
        # From the last one on: the last send to a receiver is the end of its row.
        for receiver in reversed(receivers):
            letters.append((receiver, self._pass_of(rows[receiver].pop())))
        return letters[::-1]

    def _pass_of(self, send):
        """Return the letter of a send of the past."""
        number, payload, clock = send
        return ("pass", self._me, number, payload, clock)

    def _receive_end(self, letter):
        """Learn an end of another process, and tell how many are known (point 609)."""
        _, sender, version, stays = letter
        letters = []
        if version == self._ends.known(sender):
            self._tape.append(("other", sender, version, stays))
            self._sync()
            self._ends.add(sender, version, stays)
            if self._ends.dead(self.clock()):
                letters = self._to_others(self._end_version())
        return letters + [(sender, ("heard", self._me, self._ends.known(sender)))]

    def _to_others(self, letter):
        """Address a letter to every other process."""
        return [(process, letter) for process in range(self._count) if process != self._me]

    def _receive_firm(self, letter):
        """Note what is firm, and show what is committed by this (point 611)."""
        _, sender, version, stays = letter
        self._firm.told(sender, version, stays)
        before = self._committed
        self._raise_committed()
        if self._committed == before:
            return []
        told = len(self._past.outputs(before))
        return self._shows(self._past.outputs(self._committed), told)

    def _note_number(self, kind, sender, number):
        """Note what got, heard and seen tell; lesser numbers than before have no effect."""
        if kind == "got":
            self._got[sender] = max(self._got.get(sender, 0), number)
        elif kind == "heard":
            self._heard[sender] = max(self._heard.get(sender, 0), number)
        else:
            self._seen = max(self._seen, number)

    def _letters_to(self, process):
        """Return what a tick sends to a process (point 613, step 3)."""
        letters = []
        if process != self._me:
            version, stays = self._durable
            letters = self._unheard(process) + [("firm", self._me, version, stays)]
        got = self._got.get(process, 0)
        sends = self._past.sends(process)[got:got + WINDOW]
        letters.extend([self._pass_of(send) for send in sends])
        return [(process, letter) for letter in letters]

    def _unheard(self, process):
        """Return the letters of the own ends that a process has not heard of."""
        heard = self._heard.get(process, 0)
        row = self._ends.row(self._me)[heard:heard + WINDOW]
        return [("end", self._me, version, stays) for version, stays in enumerate(row, start=heard)]

    def _shows(self, texts, told):
        """Return the letters of the outputs, without the first ones, which were told."""
        rows = enumerate(texts[told:], start=told + 1)
        return [(DESK, ("show", self._me, number, text)) for number, text in rows]
