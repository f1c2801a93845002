"""Machines, which accept sets of lines [12], kept in their least form [13]."""

from frontlines.checks import (
    check_count,
    check_ends,
    check_line,
    check_lines,
    check_rows,
    check_same_signs,
    check_sign,
    check_signs,
)
from frontlines.errors import TooMany
from frontlines.forms import ALONE, BOTH, EITHER, UNLIKE, least_form, paired
from frontlines.lines import is_line
from frontlines.listing import first_line_of, first_lines_of, how_many_of, is_finite_form
from frontlines.makers import having_form, lines_form, longer_form, path_form

MOST_SIZE = 400
MOST_LINES = 200


class Machine:
    """The lines of some signs that its rows and ends accept."""

    MOST_STATES = 300

    def __init__(self, signs, rows, ends):
        check_signs(signs)
        check_rows(signs, rows)
        check_ends(len(rows), ends)
        if len(rows) > Machine.MOST_STATES:
            raise TooMany("rows", Machine.MOST_STATES)
        least_rows, least_ends = least_form(rows, ends, Machine.MOST_STATES)
        self._signs = signs
        self._rows = least_rows
        self._ends = least_ends

    @classmethod
    def every(cls, signs):
        """All lines."""
        check_signs(signs)
        return machine_of(signs, path_form(signs, "", signs))

    @classmethod
    def nothing(cls, signs):
        """No line."""
        check_signs(signs)
        return machine_of(signs, lines_form(signs, [], Machine.MOST_STATES))

    @classmethod
    def of_lines(cls, signs, lines):
        """Just these lines."""
        check_signs(signs)
        check_lines(signs, lines)
        return machine_of(signs, lines_form(signs, lines, Machine.MOST_STATES))

    @classmethod
    def beginning(cls, signs, line):
        """The lines that begin with the line."""
        check_signs(signs)
        check_line(signs, line)
        return machine_of(signs, path_form(signs, line, signs))

    @classmethod
    def having(cls, signs, line):
        """The lines in which the line stands."""
        check_signs(signs)
        check_line(signs, line)
        return machine_of(signs, having_form(signs, line))

    @classmethod
    def tailed(cls, signs, line, sign):
        """The line, and behind it any number of the sign."""
        check_signs(signs)
        check_line(signs, line)
        check_sign(signs, sign)
        return machine_of(signs, path_form(signs, line, sign))

    @classmethod
    def longer(cls, signs, size):
        """The lines of more than so many signs."""
        check_signs(signs)
        check_count(size)
        # Any size from the limit on has too many states; so a huge one is not written out.
        return machine_of(signs, longer_form(signs, min(size, Machine.MOST_STATES)))

    @property
    def signs(self):
        """The signs."""
        return self._signs

    @property
    def states(self):
        """How many states there are."""
        return len(self._rows)

    def rows(self):
        """The list of the rows of the least form."""
        return list(self._rows)

    def ends(self):
        """The sorted list of the ends of the least form."""
        return list(self._ends)

    def __contains__(self, x):
        if not is_line(self._signs, x):
            return False
        state = 0
        for sign in x:
            state = self._rows[state][self._signs.index(sign)]
        return state in self._ends

    def __or__(self, other):
        return machine_of(self._signs, self._beside(other, EITHER))

    def __and__(self, other):
        return machine_of(self._signs, self._beside(other, BOTH))

    def __sub__(self, other):
        return machine_of(self._signs, self._beside(other, ALONE))

    def __neg__(self):
        others = [state for state in range(len(self._rows)) if state not in self._ends]
        return Machine(self._signs, self._rows, others)

    def _beside(self, other, wanted):
        """The form of both side by side, as paired tells."""
        check_same_signs(self._signs, other._signs)
        return paired((self._rows, self._ends), (other._rows, other._ends), wanted)

    def is_within(self, other):
        """Whether the other one accepts all lines that this one accepts."""
        _, ends = self._beside(other, ALONE)
        return not ends

    def unlike_line(self, other):
        """The least line that just one of both accepts; None if there is none."""
        rows, ends = self._beside(other, UNLIKE)
        return first_line_of(self._signs, rows, ends)

    def first_line(self):
        """The least line that it accepts; None if there is none."""
        return first_line_of(self._signs, self._rows, self._ends)

    def is_finite(self):
        """Whether it accepts finitely many lines."""
        return is_finite_form(self._rows, self._ends)

    def how_many(self, size):
        """How many lines of so many signs it accepts."""
        check_count(size)
        if size > MOST_SIZE:
            raise TooMany("signs", MOST_SIZE)
        return how_many_of(self._rows, self._ends, size)

    def first_lines(self, many):
        """The list of the first so many lines in order, or of all."""
        check_count(many)
        if many > MOST_LINES:
            raise TooMany("lines", MOST_LINES)
        return first_lines_of(self._signs, self._rows, self._ends, many)

    def __eq__(self, other):
        return (
            isinstance(other, Machine)
            and self._signs == other._signs
            and self._rows == other._rows
            and self._ends == other._ends
        )

    def __repr__(self):
        return f"Machine({self._signs!r}, {self._rows!r}, {self._ends!r})"


def machine_of(signs, form):
    """The Machine of a form of any size; TooMany if its least form has too many states."""
    rows, ends = least_form(form[0], form[1], Machine.MOST_STATES)
    return Machine(signs, rows, ends)
