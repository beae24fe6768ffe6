"""The desk, where inputs are submitted and outputs are shown (points 701 to 705)."""

from firmground.clocks import zero
from firmground.errors import BadLetter, BadPayload, BadProcess
from firmground.letters import check_letter
from firmground.limits import DESK
from firmground.payloads import is_payload, is_process

# So many payloads are sent again to one process at a tick.
WINDOW = 16


class Desk:
    """The desk of a group; it is told ticks and letters, and returns the letters that it sends."""

    def __init__(self, count):
        self._count = count
        # Of each process.
        self._submitted = {process: [] for process in range(count)}
        self._got = {process: 0 for process in range(count)}
        self._shown = {process: [] for process in range(count)}

    def submit(self, process, payload):
        """Submit a payload for a process (point 701); return the letters."""
        if not is_process(self._count, process):
            raise BadProcess()
        if not is_payload(self._count, payload):
            raise BadPayload()
        self._submitted[process].append(payload)
        return self._passes(process, len(self._submitted[process]) - 1)

    def receive(self, letter):
        """Take a letter (points 702 to 704); return the letters that it leads to."""
        try:
            check_letter(self._count, DESK, letter)
        except BadLetter:
            return []
        if letter[0] == "got":
            _, sender, number = letter
            known = min(number, len(self._submitted[sender]))
            self._got[sender] = max(self._got[sender], known)
            return []
        return self._receive_show(letter)

    def tick(self):
        """Send again what is not got (point 705); return the letters."""
        letters = []
        for process in range(self._count):
            letters.extend(self._passes(process, self._got[process])[:WINDOW])
        return letters

    def submitted(self, process):
        """Return a new list of the payloads that were submitted for the process."""
        return list(self._submitted.get(process, []))

    def got(self, process):
        """Return the number of payloads that are got by the process."""
        return self._got.get(process, 0)

    def shown(self, process):
        """Return a new list of the texts that are shown of the process."""
        return list(self._shown.get(process, []))

    def _receive_show(self, letter):
        """Show an output if it is the next one, and tell how many are shown."""
        _, sender, number, text = letter
        shown = self._shown[sender]
        if number == len(shown) + 1:
            shown.append(text)
        return [(sender, ("seen", DESK, len(shown)))]

    def _passes(self, process, first):
        """Return the letters of the payloads behind the first ones."""
        clock = zero(self._count)
        rows = enumerate(self._submitted[process][first:], start=first + 1)
        return [(process, ("pass", DESK, number, payload, clock)) for number, payload in rows]
