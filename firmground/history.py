"""The history of a run: what its processes and its desk did (points 750 to 752)."""

from firmground.errors import BadSchedule
from firmground.limits import MOST_NUMBER
from firmground.payloads import kind_of
from firmground.texts import is_integer

# How many items an event of each kind has, its kind included (point 751).
_LENGTHS = {
    "submit": 5,
    "take": 7,
    "undo": 4,
    "show": 5,
    "crash": 3,
    "start": 4,
}


class History:
    """A list of events, the times of which never fall."""

    def __init__(self):
        self._events = []

    def add(self, event):
        """Append an event, or raise BadSchedule (point 752)."""
        if not _is_event(event):
            raise BadSchedule(0, "event")
        if len(self._events) > 0 and event[1] < self._events[-1][1]:
            raise BadSchedule(0, "time")
        self._events.append(event)

    def events(self):
        """Return a new list of the events."""
        return list(self._events)


def _is_event(value):
    """Tell whether the value has the form of an event; most of its items may be anything."""
    length = _LENGTHS.get(kind_of(value))
    return length is not None and len(value) == length and is_integer(value[1], 0, MOST_NUMBER)
