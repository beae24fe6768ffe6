"""The machine that each process runs (points 300 and 301)."""

START = (0, 0, 0, 0)


def run(cells, payload):
    """Run the payload; return the new cells, the sends and the outputs."""
    now = list(cells)
    sends = []
    outputs = []
    # What is still to be run, the next one last.
    waiting = [payload]
    while len(waiting) > 0:
        step = waiting.pop()
        if step[0] == "send":
            sends.append((step[1], step[2]))
        elif step[0] == "show":
            outputs.append(str(now[step[1]]))
        elif step[0] == "both":
            waiting.extend([step[2], step[1]])
        elif step[0] == "if":
            waiting.append(step[2] if now[step[1]] != 0 else step[3])
        else:
            _change(now, step)
    return tuple(now), sends, outputs


def _change(cells, step):
    """Do what a payload does that changes a cell."""
    kind, cell, operand = step
    if kind == "set":
        cells[cell] = operand
    elif kind == "add":
        cells[cell] = cells[cell] + operand
    else:
        cells[cell] = cells[operand]
