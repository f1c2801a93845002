"""The errors of the package.

They set their attributes only: what they were made with stays their message, and any value may stand in it.
"""


class LineError(ValueError):
    """A value that was passed is not valid."""


class InvalidSigns(LineError):
    """A value is no signs."""

    def __init__(self, value):
        self.value = value


class InvalidRows(LineError):
    """Rows of a machine are no list (position None), or one of them is no row."""

    def __init__(self, position):
        self.position = position


class InvalidEnds(LineError):
    """Ends of a machine are no list (position None), or one of them is no state, or stands ahead."""

    def __init__(self, position):
        self.position = position


class InvalidLine(LineError):
    """A value is no line of the signs."""

    def __init__(self, value):
        self.value = value


class InvalidLines(LineError):
    """Lines are no list (position None), or one of them is no line."""

    def __init__(self, position):
        self.position = position


class InvalidCount(LineError):
    """A value is no COUNT."""

    def __init__(self, value):
        self.value = value


class InvalidRules(LineError):
    """Rules are no list (position None), or one of them is no rule."""

    def __init__(self, position):
        self.position = position


class InvalidRelays(LineError):
    """Relays are no list of 1 to 5 (position None), or one of them does not fit."""

    def __init__(self, position):
        self.position = position


class InvalidChain(LineError):
    """A chain is no list (position None), or an element is no number of a relay."""

    def __init__(self, position):
        self.position = position


class InvalidMark(LineError):
    """A value is no mark."""

    def __init__(self, value):
        self.value = value


class InvalidMarks(LineError):
    """Marks are no list of the right length (position None), or one of them does not fit."""

    def __init__(self, position):
        self.position = position


class InvalidSight(LineError):
    """A value is no sight."""

    def __init__(self, value):
        self.value = value


class InvalidLook(LineError):
    """A value is no look."""

    def __init__(self, value):
        self.value = value


class InvalidBody(LineError):
    """A body is no list (position None), or an element is no line."""

    def __init__(self, position):
        self.position = position


class InvalidTail(LineError):
    """A value is no tail."""

    def __init__(self, value):
        self.value = value


class InvalidCare(LineError):
    """A name is none of a care, or a value is none of its words."""

    def __init__(self, name, value):
        self.name = name
        self.value = value


class InvalidRole(LineError):
    """A value is no role of a level."""

    def __init__(self, value):
        self.value = value


class InvalidLevel(LineError):
    """A value is no level."""

    def __init__(self, value):
        self.value = value


class InvalidTree(LineError):
    """A value is no tree of the reader's depth."""

    def __init__(self, value):
        self.value = value


class InvalidMessage(LineError):
    """A message is no list (position None), or an element is no line."""

    def __init__(self, position):
        self.position = position


class InvalidWidth(LineError):
    """A value is no width."""

    def __init__(self, value):
        self.value = value


class InvalidText(LineError):
    """A line of a text is not as it has to be."""

    def __init__(self, line):
        self.line = line


class InvalidClaim(LineError):
    """A value is no claim."""

    def __init__(self, value):
        self.value = value


class InvalidCommand(LineError):
    """A value is no command."""

    def __init__(self, value):
        self.value = value


class StateError(RuntimeError):
    """Valid values do not go together, or not now."""


class OtherSigns(StateError):
    """Objects that are handed in together have other signs."""

    def __init__(self, one, other):
        self.one = one
        self.other = other


class OtherReaders(StateError):
    """Two readers cannot be held together."""

    def __init__(self, one, other):
        self.one = one
        self.other = other


class Untrue(StateError):
    """A claim is not true."""


class NothingToUndo(StateError):
    """No command is left to be taken back."""


class CommandFailed(StateError):
    """One of several commands failed."""

    def __init__(self, position):
        self.position = position


class LimitError(ArithmeticError):
    """A limit was passed."""


class TooMany(LimitError):
    """There are more of something than the limit."""

    def __init__(self, what, limit):
        self.what = what
        self.limit = limit
