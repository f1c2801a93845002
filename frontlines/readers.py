"""Readers, which take lines for roles by marks, a tail and cares [51]."""

from frontlines.checks import (
    check_care,
    check_care_name,
    check_level,
    check_line,
    check_marks,
    check_role,
    check_signs,
    check_tail,
)
from frontlines.errors import InvalidLevel
from frontlines.looks import is_seen, seen_machine

MOST_LEVELS = 3


class Reader:
    """A reader with a mark for each level, a tail and four cares."""

    def __init__(self, signs, marks, tail, *, sight="whole", order="inner", further="refuse", finish="refuse"):
        check_signs(signs)
        check_marks(signs, marks, MOST_LEVELS)
        check_tail(signs, tail)
        cares = {"sight": sight, "order": order, "further": further, "finish": finish}
        for name, value in list(cares.items()):
            check_care(signs, name, value)
        self._signs = signs
        self._marks = list(marks)
        self._tail = tail
        self._cares = cares

    @property
    def signs(self):
        """The signs."""
        return self._signs

    @property
    def tail(self):
        """What stands behind a mark at the end of its level."""
        return self._tail

    @property
    def depth(self):
        """The number of levels."""
        return len(self._marks)

    @property
    def sight(self):
        """How a mark is seen."""
        return self._cares["sight"]

    @property
    def order(self):
        """In which order open levels are asked."""
        return self._cares["order"]

    @property
    def further(self):
        """What is done at a mark of a level further out."""
        return self._cares["further"]

    @property
    def finish(self):
        """What is done at the end of a message while levels are open."""
        return self._cares["finish"]

    def marks(self):
        """The list of the marks, the outermost first."""
        return list(self._marks)

    def cares(self):
        """A dict from the names of the cares to their words."""
        return dict(self._cares)

    def __getitem__(self, at):
        check_level(len(self._marks), at)
        return self._marks[at - 1]

    def __iter__(self):
        raise TypeError("a reader is not iterated over")

    def roles(self):
        """The list of the roles, the outermost level first, of each level the next first."""
        return [(word, level) for level in range(1, len(self._marks) + 1) for word in ("next", "end")]

    def line_of(self, role):
        """The line of the role."""
        check_role(len(self._marks), role)
        return self._role_line(role)

    def _role_line(self, role):
        """The line of a role that is known to be one."""
        word, level = role
        return self._marks[level - 1] + (self._tail if word == "end" else "")

    def sees(self, role):
        """The Machine of the lines in which the role's line is seen."""
        check_role(len(self._marks), role)
        return seen_machine(self._signs, self._cares["sight"], self._role_line(role))

    def asked(self, level):
        """The list of the roles in the sequence in which they are asked if the levels 1 to level are open."""
        check_level(len(self._marks), level)
        levels = list(range(1, level + 1))
        if self._cares["order"] == "inner":
            levels = levels[::-1]
        return [(word, each) for each in levels for word in ("end", "next")]

    def taken(self, role, level):
        """The Machine of the lines that are taken for the role if the levels 1 to level are open."""
        check_role(len(self._marks), role)
        check_level(len(self._marks), level)
        if level < role[1]:
            raise InvalidLevel(level)
        found = self.sees(role)
        asked = self.asked(level)
        for other in asked[:asked.index(role)]:
            found = found - self.sees(other)
        return found

    def role_at(self, line, level):
        """The role for which the line is taken if the levels 1 to level are open; None."""
        check_line(self._signs, line)
        check_level(len(self._marks), level)
        for role in self.asked(level):
            if is_seen(self._cares["sight"], self._role_line(role), line):
                return role
        return None

    def with_care(self, name, value):
        """The Reader with another word for one care."""
        check_care_name(name, value)
        cares = dict(self._cares)
        cares[name] = value
        return Reader(self._signs, self._marks, self._tail, **cares)

    def __eq__(self, other):
        return (
            isinstance(other, Reader)
            and self._signs == other._signs
            and self._marks == other._marks
            and self._tail == other._tail
            and self._cares == other._cares
        )

    def __repr__(self):
        cares = [f"{name}={value!r}" for name, value in self._cares.items()]
        return f"Reader({self._signs!r}, {self._marks!r}, {self._tail!r}, {', '.join(cares)})"
