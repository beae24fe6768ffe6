"""A world: processes, a desk and a network that run step by step (points 707 to 713)."""

from firmground.acts import check_act
from firmground.desk import Desk
from firmground.errors import BadSchedule, TapeCrashed
from firmground.history import History
from firmground.limits import DESK
from firmground.net import Net
from firmground.payloads import is_group, is_payload, is_process
from firmground.process import Process
from firmground.tape import Tape


class World:
    """A world of count processes."""

    def __init__(self, count):
        if not is_group(count):
            raise BadSchedule(0, "processes")
        self._count = count
        self._time = 0
        self._net = Net()
        self._desk = Desk(count)
        self._history = History()
        self._tapes = {process: Tape() for process in range(count)}
        # None stands for a process that is down.
        self._processes = {me: Process(me, count, self._tapes[me]) for me in range(count)}
        # How many inputs each process had after its last call that returned.
        self._sizes = {process: 0 for process in range(count)}
        # The counts of the acts arm that wait for the next start.
        self._arms = {}

    def act(self, step):
        """Perform an act, or raise BadSchedule if it is not possible."""
        self._check(step)
        kind = step[0]
        if kind == "tick":
            self._tick(step[1])
        elif kind == "calm":
            self._calm(step[1])
        elif kind == "round":
            self._deliver_all()
        elif kind == "submit":
            self._submit(step[1], step[2])
        elif kind in ("deliver", "lose", "double", "move"):
            self._act_on_packet(kind, step[1])
        else:
            self._act_on_process(step)

    def time(self):
        """Return the time."""
        return self._time

    def packets(self):
        """Return a new list of the packets in flight."""
        return self._net.packets()

    def is_up(self, process):
        """Tell whether the process is up."""
        self._check_process(process)
        return self._processes[process] is not None

    def process(self, process):
        """Return the object of a process that is up."""
        if not self.is_up(process):
            raise BadSchedule(0, "state")
        return self._processes[process]

    def tape(self, process):
        """Return the tape of the process."""
        self._check_process(process)
        return self._tapes[process]

    def desk(self):
        """Return the desk."""
        return self._desk

    def history(self):
        """Return a new history with the events until now."""
        copied = History()
        for event in self._history.events():
            copied.add(event)
        return copied

    def _check_process(self, process):
        """Refuse a process that the world does not have."""
        if not is_process(self._count, process):
            raise BadSchedule(0, "process")

    def _check(self, step):
        """Refuse an act that is not possible (point 712), except for its position."""
        # The network itself refuses a position, which is then all that can be wrong.
        check_act(step)
        kind = step[0]
        if kind in ("submit", "flush", "arm", "crash", "start"):
            self._check_process(step[1])
        if kind == "submit" and not is_payload(self._count, step[2]):
            raise BadSchedule(0, "payload")
        if kind in ("flush", "crash") and not self.is_up(step[1]):
            raise BadSchedule(0, "state")
        if kind == "start" and self.is_up(step[1]):
            raise BadSchedule(0, "state")

    def _tick(self, count):
        """Let time pass for all that are up, and for the desk."""
        for _ in range(count):
            self._time += 1
            for me in range(self._count):
                if self.is_up(me):
                    self._call(me, "tick", None)
            self._send(DESK, self._desk.tick())

    def _calm(self, count):
        """Let time pass, and deliver what is in flight, each time."""
        for _ in range(count):
            self._tick(1)
            self._deliver_all()

    def _deliver_all(self):
        """Deliver as many packets as are in flight now."""
        for _ in range(len(self._net.packets())):
            self._deliver(0)

    def _deliver(self, position):
        """Take out a packet, and deliver it (point 710)."""
        _, receiver, letter = self._net.take(position)
        if receiver == DESK:
            self._deliver_to_desk(letter)
        elif self.is_up(receiver):
            self._call(receiver, "receive", letter)

    def _deliver_to_desk(self, letter):
        """Let the desk take a letter."""
        sender = letter[1]
        before = len(self._desk.shown(sender))
        letters = self._desk.receive(letter)
        shown = self._desk.shown(sender)
        if len(shown) > before:
            self._note("show", sender, len(shown), shown[-1])
        self._send(DESK, letters)

    def _submit(self, process, payload):
        """Submit a payload at the desk."""
        letters = self._desk.submit(process, payload)
        self._note("submit", process, len(self._desk.submitted(process)), payload)
        self._send(DESK, letters)

    def _act_on_packet(self, kind, position):
        """Do what an act does with one packet."""
        if kind == "deliver":
            self._deliver(position)
        elif kind == "lose":
            self._net.take(position)
        elif kind == "double":
            self._net.double(position)
        else:
            self._net.move(position)

    def _act_on_process(self, step):
        """Do what an act does with one process, or with its tape."""
        kind, process = step[0], step[1]
        if kind == "flush":
            self._call(process, "flush", None)
        elif kind == "crash":
            self._go_down(process)
        elif kind == "start":
            self._start(process, step[2])
        elif self.is_up(process):
            self._tapes[process].arm(step[2])
        else:
            self._arms[process] = step[2]

    def _call(self, me, name, letter):
        """Call a process that is up; it goes down if its tape crashes (point 711)."""
        process = self._processes[me]
        before = len(process.inputs())
        try:
            letters = _answer(process, name, letter)
        except TapeCrashed:
            self._go_down(me)
            return
        self._note_takes(me, before)
        self._note_left(me, before)
        self._send(me, letters)

    def _note_takes(self, me, before):
        """Note the inputs that a call took behind the first ones."""
        for sender, number, payload, _, version in self._processes[me].inputs()[before:]:
            self._note("take", me, version, sender, number, payload)

    def _note_left(self, me, before):
        """Note how many inputs are left, if there were more before."""
        left = len(self._processes[me].inputs())
        if left < before:
            self._note("undo", me, left)
        self._sizes[me] = left

    def _go_down(self, me):
        """Forget a process."""
        self._processes[me] = None
        self._note("crash", me)

    def _start(self, me, keep):
        """Let a process begin again on its tape; it stays down if the tape crashes then."""
        tape = self._tapes[me]
        tape.crash(keep)
        passing = self._arms.pop(me, None)
        if passing is not None:
            tape.arm(passing)
        try:
            self._processes[me] = Process(me, self._count, tape)
        except TapeCrashed:
            return
        self._note("start", me, self._processes[me].version())
        self._note_left(me, self._sizes[me])

    def _send(self, sender, letters):
        """Send the letters of a call (point 709)."""
        for receiver, letter in letters:
            self._net.send(sender, receiver, letter)

    def _note(self, kind, *rest):
        """Add an event to the history."""
        self._history.add((kind, self._time, *rest))


def _answer(process, name, letter):
    """Call the method of a process that has this name; return the letters."""
    if name == "tick":
        return process.tick()
    if name == "receive":
        return process.receive(letter)
    process.flush()
    return []
