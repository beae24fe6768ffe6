"""The past of a process (points 500 to 504)."""

from firmground.clocks import merge, zero
from firmground.machine import START, run


class Past:
    """The inputs that a process took and did not undo, and all that follows from them."""

    def __init__(self, me, count):
        self._me = me
        # Of each state, from the one without inputs on.
        self._cells = [START]
        self._clocks = [zero(count)]
        self._tallies = [{}]
        # Of each input.
        self._inputs = []
        self._texts = []
        self._receivers = []
        # To each process.
        self._sends = {}

    def take(self, sender, number, payload, clock, version):
        """Take an input; return the processes that it sends to."""
        cells, sends, outputs = run(self.cells(), payload)
        self._inputs.append((sender, number, payload, clock, version))
        self._texts.append(outputs)
        self._receivers.append([receiver for receiver, _ in sends])
        self._cells.append(cells)
        self._clocks.append(self._clock_behind(clock, version))
        self._tallies.append(self._tally_behind(sender))
        for receiver, sent in sends:
            self._send(receiver, sent)
        return list(self._receivers[-1])

    def cut(self, count):
        """Remove all inputs behind the first ones."""
        while self.size() > count:
            self._remove_last()

    def size(self):
        """Return the number of inputs."""
        return len(self._inputs)

    def inputs(self):
        """Return a new list of the inputs, each with the version that it was taken in."""
        return list(self._inputs)

    def taken(self, sender, count):
        """Return how many of the first inputs are of this sender."""
        tally = self._tallies[min(count, self.size())]
        return tally.get(sender, 0)

    def cells(self):
        """Return the cells of the last state."""
        return self._cells[-1]

    def clock(self, count):
        """Return the clock of the state with this count."""
        return self._clocks[count]

    def sends(self, receiver):
        """Return a new list of the sends to a process, as (number, payload, clock)."""
        return list(self._sends.get(receiver, []))

    def outputs(self, count):
        """Return a new list of the outputs of the first inputs."""
        return [text for texts in self._texts[:count] for text in texts]

    def alive(self, ends):
        """Return the greatest count up to which no state is dead."""
        for count, clock in enumerate(self._clocks):
            if ends.dead(clock):
                return count - 1
        return self.size()

    def _clock_behind(self, clock, version):
        """Return the clock of the state that the last input leads to."""
        merged = merge(self._clocks[-1], clock)
        return merged[:self._me] + ((version, self.size()),) + merged[self._me + 1:]

    def _tally_behind(self, sender):
        """Return how many inputs of each sender there are with one more of this one."""
        tally = dict(self._tallies[-1])
        tally[sender] = tally.get(sender, 0) + 1
        return tally

    def _send(self, receiver, payload):
        """Add a send of the last state."""
        row = self._sends.setdefault(receiver, [])
        row.append((len(row) + 1, payload, self._clocks[-1]))

    def _remove_last(self):
        """Remove the last input and all that followed from it."""
        self._inputs.pop()
        self._texts.pop()
        self._cells.pop()
        self._clocks.pop()
        self._tallies.pop()
        receivers = self._receivers.pop()
        for receiver in receivers:
            self._sends[receiver].pop()
