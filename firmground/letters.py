"""Clocks, and the letters between processes and the desk (points 108 and 110 to 112)."""

from firmground.clocks import zero
from firmground.errors import BadLetter
from firmground.limits import DESK, MOST_NUMBER
from firmground.payloads import is_group, is_payload, is_process, kind_of
from firmground.texts import is_integer, is_output

# What the sender and the other items of each kind of letter are (point 110).
_FORMS = {
    "pass": ("anyone", "number", "payload", "clock"),
    "got": ("process", "number"),
    "end": ("process", "count", "count"),
    "heard": ("process", "count"),
    "firm": ("process", "count", "count"),
    "show": ("process", "number", "output"),
    "seen": ("desk", "count"),
}

_RECEIVERS = {
    "pass": "process",
    "got": "anyone",
    "end": "another",
    "heard": "another",
    "firm": "another",
    "show": "desk",
    "seen": "process",
}


def is_clock(count, value):
    """Tell whether the value is a clock of a group of count processes (point 108)."""
    if not is_group(count) or type(value) != tuple or len(value) != count:
        return False
    return all([_is_pair(pair) for pair in value])


def _is_pair(value):
    """Tell whether the value is a pair (version, count)."""
    if type(value) != tuple or len(value) != 2:
        return False
    version, count = value
    if not (is_integer(version, 0, MOST_NUMBER) and is_integer(count, 0, MOST_NUMBER)):
        return False
    return count > 0 or version == 0


def is_letter(count, value):
    """Tell whether the value is a letter of a group of count processes (point 111)."""
    forms = _FORMS.get(kind_of(value))
    if not is_group(count) or forms is None or len(value) != len(forms) + 1:
        return False
    if not all([_is_item(count, form, item) for form, item in zip(forms, value[1:])]):
        return False
    return value[0] != "pass" or _is_clock_of(value[1], value[4])


def _is_item(count, form, value):
    """Tell whether the value is an item of this form."""
    if form == "number":
        return is_integer(value, 1, MOST_NUMBER)
    if form == "count":
        return is_integer(value, 0, MOST_NUMBER)
    if form == "payload":
        return is_payload(count, value)
    if form == "clock":
        return is_clock(count, value)
    if form == "output":
        return is_output(value)
    return _is_someone(count, form, value)


def _is_someone(count, form, value):
    """Tell whether the value is the desk, a process, or either one, as the form says."""
    if form != "process" and is_integer(value, DESK, DESK):
        return True
    return form != "desk" and is_process(count, value)


def _is_clock_of(sender, clock):
    """Tell whether an input of this sender can have this clock."""
    if sender == DESK:
        return clock == zero(len(clock))
    return clock[sender][1] >= 1


def check_letter(count, receiver, letter):
    """Return the letter if the receiver can get it, or raise BadLetter (point 112)."""
    if not is_letter(count, letter) or not _is_receiver(count, receiver, letter):
        raise BadLetter()
    return letter


def _is_receiver(count, receiver, letter):
    """Tell whether the receiver fits the letter."""
    form = _RECEIVERS[letter[0]]
    if form == "another":
        return is_process(count, receiver) and receiver != letter[1]
    return _is_someone(count, form, receiver)
