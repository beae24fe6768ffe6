"""The judge, which looks for what a run must not do (points 753 to 760)."""

from firmground.limits import DESK
from firmground.machine import START, run


class Replay:
    """The past of a process, as the events say (point 754)."""

    def __init__(self):
        # Each one (sender, number, payload).
        self._inputs = []
        # Of each state, from the one without inputs on.
        self._cells = [START]
        self._totals = [0]
        self._outputs = []
        # Of each input.
        self._sends = []
        # How many inputs each sender has.
        self._tally = {}

    def take(self, sender, number, payload):
        """Add an input."""
        cells, sends, outputs = run(self._cells[-1], payload)
        self._inputs.append((sender, number, payload))
        self._cells.append(cells)
        self._sends.append(sends)
        self._outputs.extend(outputs)
        self._totals.append(len(self._outputs))
        self._tally[sender] = self.taken(sender) + 1

    def cut(self, count):
        """Remove the inputs behind the first ones."""
        while self.size() > count:
            sender, _, _ = self._inputs.pop()
            self._tally[sender] = self._tally[sender] - 1
            self._cells.pop()
            self._sends.pop()
            self._totals.pop()
        self._outputs = self._outputs[:self._totals[-1]]

    def size(self):
        """Return the number of inputs."""
        return len(self._inputs)

    def taken(self, sender):
        """Return the number of inputs of this sender."""
        return self._tally.get(sender, 0)

    def inputs(self):
        """Return a new list of the inputs."""
        return list(self._inputs)

    def has_output(self, number, text):
        """Tell whether the output with this number is this text."""
        return number <= len(self._outputs) and self._outputs[number - 1] == text

    def begins_with(self, texts):
        """Tell whether the texts are a beginning of the outputs."""
        return self._outputs[:len(texts)] == texts

    def sends(self, receiver):
        """Return the list of the payloads that are sent to a process."""
        return [payload for sends in self._sends for process, payload in sends if process == receiver]


class Replays:
    """The pasts of all processes, as the events say."""

    def __init__(self):
        self._replays = {}

    def of(self, process):
        """Return the past of the process."""
        if process not in self._replays:
            self._replays[process] = Replay()
        return self._replays[process]

    def follow(self, event):
        """Do what an event says of the past of its process."""
        if event[0] == "take":
            _, _, process, _, sender, number, payload = event
            self.of(process).take(sender, number, payload)
        elif event[0] == "undo":
            _, _, process, count = event
            self.of(process).cut(count)


def take_fault(events):
    """Return the first fault of an input that is taken (point 755), or None."""
    replays = Replays()
    submits = {}
    for event in events:
        if event[0] == "submit":
            _, _, process, number, payload = event
            submits.setdefault((process, number), []).append(payload)
        elif event[0] == "take":
            _, _, process, _, sender, number, payload = event
            if number != replays.of(process).taken(sender) + 1:
                return ("number", process, sender, number)
            if sender == DESK and payload not in submits.get((process, number), []):
                return ("desk", process, number)
        replays.follow(event)
    return None


def undo_fault(events):
    """Return the first fault of an undo that leaves all inputs (point 756), or None."""
    replays = Replays()
    for event in events:
        if event[0] == "undo":
            _, _, process, count = event
            if replays.of(process).size() <= count:
                return ("undo", process, count)
        replays.follow(event)
    return None


def show_fault(events):
    """Return the first fault of an output that was shown (point 757), or None."""
    replays = Replays()
    shown = {}
    for event in events:
        replays.follow(event)
        texts = shown.setdefault(event[2], [])
        replay = replays.of(event[2])
        if event[0] == "show":
            _, _, process, number, text = event
            if number != len(texts) + 1:
                return ("order", process, number)
            if not replay.has_output(number, text):
                return ("show", process, number)
            texts.append(text)
        elif event[0] == "undo" and not replay.begins_with(texts):
            return ("hidden", event[2], event[3])
    return None


def run_fault(events):
    """Return the first input that its sender did not send in the end (point 758), or None."""
    replays = Replays()
    for event in events:
        replays.follow(event)
    for process in sorted({event[2] for event in events if event[0] == "take"}):
        fault = _unsent_fault(replays, process)
        if fault is not None:
            return fault
    return None


def _unsent_fault(replays, process):
    """Return the fault of the first input of a process that was not sent, or None."""
    rows = {}
    for sender, number, payload in replays.of(process).inputs():
        if sender == DESK:
            continue
        if sender not in rows:
            rows[sender] = replays.of(sender).sends(process)
        row = rows[sender]
        if number > len(row) or row[number - 1] != payload:
            return ("run", process, sender, number)
    return None


def judge(events):
    """Return the list of the faults that the other functions find."""
    faults = [take_fault(events), undo_fault(events), show_fault(events), run_fault(events)]
    return [fault for fault in faults if fault is not None]
