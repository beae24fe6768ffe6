"""Acts, the steps of a world (points 708 and 712)."""

from firmground.errors import BadSchedule
from firmground.limits import MOST_NUMBER
from firmground.payloads import kind_of
from firmground.texts import is_integer

# The greatest count of ticks and calms of one act.
MOST_TICKS = 1000

# What the items of each kind of act are (point 708).
_FORMS = {
    "tick": ("ticks",),
    "calm": ("ticks",),
    "round": (),
    "deliver": ("number",),
    "lose": ("number",),
    "double": ("number",),
    "move": ("number",),
    "submit": ("process", "payload"),
    "flush": ("process",),
    "arm": ("process", "number"),
    "crash": ("process",),
    "start": ("process", "number"),
}


def forms_of(kind):
    """Return the forms of the items of an act of this kind, or None if there is none."""
    return _FORMS.get(kind)


def check_act(act):
    """Refuse what is no act, and numbers that are none (point 712, reasons 1 and 2)."""
    forms = forms_of(kind_of(act))
    if forms is None or len(act) != len(forms) + 1:
        raise BadSchedule(0, "act")
    if not all([_is_number(form, item) for form, item in zip(forms, act[1:])]):
        raise BadSchedule(0, "number")


def _is_number(form, value):
    """Tell whether the value is such a number, if the form asks for one."""
    if form == "ticks":
        return is_integer(value, 1, MOST_TICKS)
    return form != "number" or is_integer(value, 0, MOST_NUMBER)
