"""The limits that all parts share (point 103)."""

MOST_PROCESSES = 10

# Processes are numbered from 0 on, so no process ever has this name.
DESK = -1

CELLS = 4
MOST_VALUE = 10 ** 6
MOST_NESTING = 6
MOST_NUMBER = 10 ** 12
MOST_TEXT = 40
