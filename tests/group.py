"""A group that runs step by step, for the tests: processes on tapes, a desk and packets.

It does what points 707 to 713 say with as few means as it can, so that a World can be
compared with it, and so that the modules below a World can be run without one.
"""

from firmground.desk import Desk
from firmground.errors import TapeCrashed
from firmground.process import Process
from firmground.tape import Tape

DESK = -1


class Group:
    def __init__(self, count):
        self.count = count
        self.tapes = [Tape() for _ in range(count)]
        self.processes = [Process(me, count, self.tapes[me]) for me in range(count)]
        self.desk = Desk(count)
        self.packets = []
        self.time = 0
        self.events = []
        self.last_inputs = [[] for _ in range(count)]
        self.waiting_arms = {}

    def act(self, step):
        """Perform an act that is possible."""
        getattr(self, "act_" + step[0])(*step[1:])

    def act_tick(self, times):
        for _ in range(times):
            self.time += 1
            for me in range(self.count):
                if self.processes[me] is not None:
                    self.call(me, lambda process: process.tick())
            self.post(DESK, self.desk.tick())

    def act_calm(self, times):
        for _ in range(times):
            self.act_tick(1)
            self.act_round()

    def act_round(self):
        for _ in range(len(self.packets)):
            self.act_deliver(0)

    def act_deliver(self, position):
        sender, receiver, letter = self.packets.pop(position)
        if receiver == DESK:
            known = {me: self.desk.shown(me) for me in range(self.count)}
            self.post(DESK, self.desk.receive(letter))
            for me in range(self.count):
                for number, text in list(enumerate(self.desk.shown(me), 1))[len(known[me]):]:
                    self.events.append(("show", self.time, me, number, text))
        elif self.processes[receiver] is not None:
            self.call(receiver, lambda process: process.receive(letter))

    def act_lose(self, position):
        del self.packets[position]

    def act_double(self, position):
        self.packets.append(self.packets[position])

    def act_move(self, position):
        self.packets.append(self.packets.pop(position))

    def act_submit(self, process, payload):
        letters = self.desk.submit(process, payload)
        number = len(self.desk.submitted(process))
        self.events.append(("submit", self.time, process, number, payload))
        self.post(DESK, letters)

    def act_flush(self, process):
        self.call(process, lambda process: process.flush() or [])

    def act_arm(self, process, count):
        if self.processes[process] is None:
            self.waiting_arms[process] = count
        else:
            self.tapes[process].arm(count)

    def act_crash(self, process):
        self.processes[process] = None
        self.events.append(("crash", self.time, process))

    def act_start(self, process, keep):
        self.tapes[process].crash(keep)
        if process in self.waiting_arms:
            self.tapes[process].arm(self.waiting_arms.pop(process))
        try:
            made = Process(process, self.count, self.tapes[process])
        except TapeCrashed:
            return
        self.processes[process] = made
        self.events.append(("start", self.time, process, made.version()))
        self.note_undo(process)
        self.last_inputs[process] = made.inputs()

    def call(self, me, told):
        try:
            letters = told(self.processes[me])
        except TapeCrashed:
            self.act_crash(me)
            return
        known = len(self.last_inputs[me])
        for sender, number, payload, _, version in self.processes[me].inputs()[known:]:
            self.events.append(("take", self.time, me, version, sender, number, payload))
        self.note_undo(me)
        self.last_inputs[me] = self.processes[me].inputs()
        self.post(me, letters)

    def note_undo(self, me):
        left = len(self.processes[me].inputs())
        if left < len(self.last_inputs[me]):
            self.events.append(("undo", self.time, me, left))

    def post(self, sender, letters):
        self.packets += [(sender, receiver, letter) for receiver, letter in letters]
