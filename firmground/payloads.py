"""Groups, processes, payloads, and the text of a payload (points 104 to 107)."""

from firmground.errors import BadPayload, BadText
from firmground.limits import CELLS, MOST_NESTING, MOST_PROCESSES, MOST_VALUE
from firmground.texts import integer_of, is_integer

# What the items of each kind of payload are (point 105).
_FORMS = {
    "set": ("cell", "value"),
    "add": ("cell", "value"),
    "copy": ("cell", "cell"),
    "send": ("process", "payload"),
    "show": ("cell",),
    "both": ("payload", "payload"),
    "if": ("cell", "payload", "payload"),
}


def is_group(count):
    """Tell whether a group can have so many processes (point 104)."""
    return is_integer(count, 1, MOST_PROCESSES)


def is_process(count, value):
    """Tell whether the value is a process of a group of count processes (point 104)."""
    return is_group(count) and is_integer(value, 0, count - 1)


def kind_of(value):
    """Return the string that the value, if it is a tuple, begins with; otherwise None."""
    # Exact classes, and no comparison: what only passes for a tuple or a string may raise.
    if type(value) == tuple and len(value) > 0 and type(value[0]) == str:
        return value[0]
    return None


def is_payload(count, value):
    """Tell whether the value is a payload of a group of count processes (point 105)."""
    return is_group(count) and _is_nested(count, value, MOST_NESTING)


def _is_nested(count, value, most):
    """Tell whether the value is a payload whose nesting depth is at most this."""
    # The depth is checked first: a value may be nested deeper than functions can be called.
    if most == 0:
        return False
    forms = _FORMS.get(kind_of(value))
    if forms is None or len(value) != len(forms) + 1:
        return False
    return all([_is_item(count, form, item, most - 1) for form, item in zip(forms, value[1:])])


def _is_item(count, form, value, most):
    """Tell whether the value is an item of this form; a payload has at most this depth."""
    if form == "cell":
        return is_integer(value, 0, CELLS - 1)
    if form == "value":
        return is_integer(value, -MOST_VALUE, MOST_VALUE)
    if form == "process":
        return is_process(count, value)
    return _is_nested(count, value, most)


def write_payload(count, payload):
    """Return the text of the payload, or raise BadPayload (point 107)."""
    if not is_payload(count, payload):
        raise BadPayload()
    return _text_of(payload)


def _text_of(item):
    """Return the text of a payload, or of its kind or an item of it (point 106)."""
    if type(item) != tuple:
        return str(item)
    return "(" + " ".join([_text_of(each) for each in item]) + ")"


def read_payload(count, text):
    """Return the payload with this text, or raise BadText (point 107)."""
    payload = _tuple_of(text) if type(text) == str else None
    if not is_payload(count, payload):
        raise BadText()
    return payload


def _tuple_of(text):
    """Return what the text writes, whether it is a payload or not, or None if it writes nothing.

    A word that begins a tuple gives a kind, and any other word gives an integer. Kinds and
    integers have one text each, so two texts never give the same payload.
    """
    # The tuples that are not closed yet, each inside of the one before it.
    opened = [[]]
    for word in text.split(" "):
        if word.startswith("("):
            opened.append([word[1:]])
            continue
        digits = word.rstrip(")")
        opened[-1].append(integer_of(digits))
        for _ in range(len(word) - len(digits)):
            closed = tuple(opened.pop())
            if len(opened) == 0:
                return None
            opened[-1].append(closed)
    if len(opened) != 1 or len(opened[0]) != 1:
        return None
    return opened[0][0]
