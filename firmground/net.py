"""The network: the packets in flight (point 706)."""

from firmground.errors import BadSchedule
from firmground.texts import is_integer


class Net:
    """A list of packets, each one (sender, receiver, letter)."""

    def __init__(self):
        self._packets = []

    def send(self, sender, receiver, letter):
        """Append a packet."""
        self._packets.append((sender, receiver, letter))

    def take(self, position):
        """Take out the packet at the position, and return it."""
        self._check_position(position)
        return self._packets.pop(position)

    def double(self, position):
        """Append a second copy of the packet at the position."""
        self._check_position(position)
        self._packets.append(self._packets[position])

    def move(self, position):
        """Remove the packet at the position, and append it."""
        self._packets.append(self.take(position))

    def packets(self):
        """Return a new list of the packets."""
        return list(self._packets)

    def _check_position(self, position):
        """Refuse a position at which there is no packet."""
        if not is_integer(position, 0, len(self._packets) - 1):
            raise BadSchedule(0, "position")
