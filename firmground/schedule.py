"""Schedules: the texts that decide what a world does (points 714 to 716)."""

from firmground.acts import check_act, forms_of
from firmground.errors import BadSchedule, BadText
from firmground.limits import MOST_PROCESSES
from firmground.payloads import is_payload, read_payload, write_payload
from firmground.texts import integer_of, is_integer, is_printable
from firmground.world import World

# The greatest integer that has 12 digits.
_MOST_WRITTEN = 10 ** 12 - 1


def parse_schedule(text):
    """Return the number of the group line, the count, and the acts with their lines."""
    group = None
    acts = []
    for line, row in enumerate(text.split("\n"), start=1):
        if not is_printable(row):
            raise BadSchedule(line, "character")
        if row == "" or row.startswith("#"):
            continue
        word = row.split(" ")[0]
        if (word == "group") != (group is None):
            raise BadSchedule(line, "group")
        if group is None:
            group = (line, _items_of(line, row, ("number",))[0])
        else:
            acts.append((line, _act_of(line, row, word)))
    if group is None:
        raise BadSchedule(0, "group")
    return group[0], group[1], acts


def _act_of(line, row, word):
    """Return the act that a line with this first word writes."""
    forms = forms_of(word)
    if forms is None:
        raise BadSchedule(line, "verb")
    items = _items_of(line, row, forms)
    return (word, *items)


def _items_of(line, row, forms):
    """Return the list of the items that the words behind the first one write."""
    # A payload has spaces in its text, so the rest of the line is one word then.
    words = row.split(" ", len(forms)) if "payload" in forms else row.split(" ")
    if len(words) != len(forms) + 1:
        raise BadSchedule(line, "count")
    items = [_item_of(form, word) for form, word in zip(forms, words[1:])]
    for form, item in zip(forms, items):
        if item is None:
            raise BadSchedule(line, "text" if form == "payload" else "number")
    return items


def _item_of(form, word):
    """Return the item of this form that the word writes, or None if it writes none."""
    if form == "payload":
        return _payload_of(word)
    number = integer_of(word)
    return number if is_integer(number, 0, _MOST_WRITTEN) else None


def _payload_of(text):
    """Return the payload with this text, or None if there is none."""
    try:
        return read_payload(MOST_PROCESSES, text)
    except BadText:
        return None


def act_line(act):
    """Return the line of an act, or raise BadSchedule if it has none."""
    try:
        check_act(act)
    except BadSchedule:
        raise BadSchedule(0, "act")
    words = [act[0]]
    for form, item in zip(forms_of(act[0]), act[1:]):
        words.append(_word_of(form, item))
    return " ".join(words)


def _word_of(form, item):
    """Return the word that writes an item of this form, or raise BadSchedule."""
    if form == "payload" and is_payload(MOST_PROCESSES, item):
        return write_payload(MOST_PROCESSES, item)
    if form != "payload" and is_integer(item, 0, _MOST_WRITTEN):
        return str(item)
    raise BadSchedule(0, "act")


def run_schedule(text):
    """Parse and run a schedule; return the world."""
    line, count, acts = parse_schedule(text)
    world = _world_of(line, count)
    for place, act in acts:
        _perform(world, place, act)
    return world


def _world_of(line, count):
    """Create the world that the group line asks for."""
    try:
        return World(count)
    except BadSchedule as error:
        raise BadSchedule(line, error.reason)


def _perform(world, line, act):
    """Perform the act of a line."""
    try:
        world.act(act)
    except BadSchedule as error:
        raise BadSchedule(line, error.reason)
