"""The errors that the program raises (point 102)."""


class GroundError(ValueError):
    """Any error of the program."""


class BadText(GroundError):
    """A text that is not the text of a payload."""


class BadPayload(GroundError):
    """A value that is not a payload of the group."""


class BadLetter(GroundError):
    """A value that is not a letter for its receiver."""


class BadProcess(GroundError):
    """A process that the group does not have."""


class TapeCrashed(GroundError):
    """The tape has crashed."""


class BadSchedule(GroundError):
    """A schedule, an act or an event that is refused, with its line and the reason."""

    def __init__(self, line, reason):
        self.line = line
        self.reason = reason
