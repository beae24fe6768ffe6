"""Payloads, letters, tapes and processes that several tests make."""

from firmground.clocks import zero
from firmground.errors import TapeCrashed
from firmground.process import Process
from firmground.tape import Tape

DESK = -1
SHOW = ("show", 0)


def both(*steps):
    """A payload that makes these steps, one after the other; a few of them, for the nesting."""
    payload = steps[-1]
    for step in reversed(steps[:-1]):
        payload = ("both", step, payload)
    return payload


def many(kind_of_step, depth):
    """A payload that makes one step 2 ** depth times."""
    payload = kind_of_step
    for _ in range(depth):
        payload = ("both", payload, payload)
    return payload


def some_payload(source, count, depth=3):
    """A payload of a group that the source of chance decides."""
    plain = ["set", "add", "copy", "show"]
    kind = source.choice(plain + ["send", "send", "both", "both", "if"] if depth > 1 else plain)
    cell = source.randrange(4)
    if kind in ("set", "add"):
        return (kind, cell, source.randint(-9, 9))
    if kind == "copy":
        return (kind, cell, source.randrange(4))
    if kind == "show":
        return (kind, cell)
    if kind == "send":
        return (kind, source.randrange(count), some_payload(source, count, depth - 1))
    inner = some_payload(source, count, depth - 1), some_payload(source, count, depth - 1)
    return (kind, *inner) if kind == "both" else (kind, cell, *inner)


def tape_with(*records, pending=0):
    """A tape with these records; the last ones of them are pending."""
    tape = Tape()
    for record in records[:len(records) - pending]:
        tape.append(record)
    tape.sync()
    for record in records[len(records) - pending:]:
        tape.append(record)
    return tape


def clock(count, **pairs):
    """A clock of a group with some pairs: clock(3, p1=(0, 2))."""
    return tuple([pairs.get(f"p{process}", (0, 0)) for process in range(count)])


def desk_pass(count, number, payload):
    return ("pass", DESK, number, payload, zero(count))


def desk_input(count, number, payload):
    return ("input", DESK, number, payload, zero(count))


def fresh(me=0, count=3, tape=None):
    """A process on a tape that it starts on, and the tape."""
    tape = Tape() if tape is None else tape
    return Process(me, count, tape), tape


def given(process, *letters):
    """What a process sends for each of these letters."""
    return [process.receive(letter) for letter in letters]


def looks(process, tape, count):
    """All that can be seen of a process and its tape."""
    return (process.version(), process.inputs(), process.cells(), process.clock(),
            process.committed(), process.outputs(), [process.ends(each) for each in range(count)],
            tape.records(), tape.pending())


def firm_told(process, me, count):
    """The pair that a process tells as firm at a tick; every other process is told the same."""
    letters = process.tick()
    told = [(receiver, letter) for receiver, letter in letters if letter[0] == "firm"]
    assert [receiver for receiver, _ in told] == [each for each in range(count) if each != me]
    pairs = {letter[2:] for _, letter in told}
    assert len(pairs) == 1 and {letter[1] for _, letter in told} == {me}
    return pairs.pop()


def crashes(call, *given):
    """Tell whether a call raises TapeCrashed."""
    try:
        call(*given)
    except TapeCrashed:
        return True
    return False


def records(tape):
    try:
        return tape.records()
    except TapeCrashed:
        return "crashed"


def world_looks(world, count):
    """All that can be seen of a world."""
    found = [world.time(), world.packets(), world.history().events()]
    for each in range(count):
        found.append((records(world.tape(each)), world.tape(each).pending()))
        if world.is_up(each):
            process = world.process(each)
            found.append((process.version(), process.inputs(), process.committed(), process.outputs()))
        desk = world.desk()
        found.append((desk.submitted(each), desk.got(each), desk.shown(each)))
    return found
