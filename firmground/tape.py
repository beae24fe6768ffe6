"""The tape to which a process writes its records (points 200 to 202)."""

from firmground.errors import TapeCrashed


class Tape:
    """A list of records, the first of which are durable; the others are pending."""

    def __init__(self):
        self._records = []
        self._durable = 0
        # How many operations pass before the crash; None if the tape is not armed.
        self._passing = None
        self._crashed = False

    def append(self, record):
        """Add a pending record."""
        self._operate()
        self._records.append(record)

    def sync(self):
        """Make all records durable."""
        self._operate()
        self._durable = len(self._records)

    def records(self):
        """Return a new list of all records."""
        self._refuse_if_crashed()
        return list(self._records)

    def pending(self):
        """Return the number of pending records."""
        return len(self._records) - self._durable

    def arm(self, count):
        """Let so many operations pass; the one after them crashes the tape."""
        # A tape that has crashed is not armed for the time after crash, which disarms it.
        self._passing = count

    def crash(self, keep):
        """Lose the pending records, but for the first ones that are kept."""
        self._durable = min(self._durable + keep, len(self._records))
        self._records = self._records[:self._durable]
        self._passing = None
        self._crashed = False

    def _operate(self):
        """Let an operation pass, or crash at it."""
        self._refuse_if_crashed()
        if self._passing is None:
            return
        if self._passing == 0:
            self._crashed = True
            raise TapeCrashed()
        self._passing = self._passing - 1

    def _refuse_if_crashed(self):
        if self._crashed:
            raise TapeCrashed()
