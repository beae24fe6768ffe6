"""What is known of the ends of versions, and of what is firm (points 402 to 405)."""


class Ends:
    """The known ends of all processes of a group."""

    def __init__(self, count):
        self._rows = {process: [] for process in range(count)}
        # For each version of a row, the least count of this end and the ends behind it.
        self._least = {process: [] for process in range(count)}

    def known(self, process):
        """Return the number of known ends of the process."""
        return len(self._rows.get(process, []))

    def add(self, process, version, stays):
        """Add an end, if it is the next one of the process; tell whether it was added."""
        if version != self.known(process):
            return False
        least = [min(count, stays) for count in self._least.get(process, [])]
        self._least[process] = least + [stays]
        self._rows[process] = self.row(process) + [stays]
        return True

    def row(self, process):
        """Return a new list of the counts of the known ends of the process."""
        return list(self._rows.get(process, []))

    def dead(self, clock):
        """Tell whether a pair of the clock is dead."""
        return any([self.dead_pair(process, pair) for process, pair in enumerate(clock)])

    def dead_pair(self, process, pair):
        """Tell whether the pair of this process is dead (point 403)."""
        version, count = pair
        least = self._least.get(process, [])
        return version < len(least) and least[version] < count

    def ready(self, clock):
        """Tell whether all ends that the clock has behind it are known (point 403)."""
        return all([pair[0] <= self.known(process) for process, pair in enumerate(clock)])


class Firm:
    """How far each process of a group told that it is firm."""

    def __init__(self, count, ends):
        self._ends = ends
        # No pair with a count is firm up to this one, so it stands for nothing told.
        self._told = {process: (0, 0) for process in range(count)}

    def told(self, process, version, stays):
        """Note that the process is firm up to this pair."""
        self._told[process] = max(self._greatest(process), (version, stays))

    def firm(self, clock):
        """Tell whether all pairs of the clock are firm."""
        return all([self._is_firm(process, pair) for process, pair in enumerate(clock)])

    def _greatest(self, process):
        """Return the greatest pair that the process told."""
        return self._told.get(process, (0, 0))

    def _is_firm(self, process, pair):
        """Tell whether the pair of this process is firm (point 405)."""
        version, count = pair
        other, stays = self._greatest(process)
        if count == 0:
            return True
        if other == version:
            return count <= stays
        if other < version or self._ends.known(process) < other:
            return False
        return not self._ends.dead_pair(process, pair)
