"""Clocks of states (points 400 and 401)."""


def zero(count):
    """Return the clock of a group of count processes that depends on nothing."""
    return ((0, 0),) * count


def merge(one, other):
    """Return the clock with the greater pair of each process."""
    return tuple([max(mine, theirs) for mine, theirs in zip(one, other)])
