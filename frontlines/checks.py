"""The errors of wrong parameters, each raised where its value is not valid."""

from frontlines.errors import (
    InvalidCount,
    InvalidEnds,
    InvalidLine,
    InvalidLines,
    InvalidRows,
    InvalidRules,
    InvalidSigns,
    OtherSigns,
)
from frontlines.lines import is_count, is_integer, is_line, is_list, is_signs

MOST_RULE_SIGNS = 40


def check_signs(signs):
    """InvalidSigns unless signs."""
    if not is_signs(signs):
        raise InvalidSigns(signs)


def check_same_signs(one, other):
    """OtherSigns unless both signs are the same."""
    if one != other:
        raise OtherSigns(one, other)


def check_line(signs, line):
    """InvalidLine unless a line of the signs."""
    if not is_line(signs, line):
        raise InvalidLine(line)


def check_sign(signs, sign):
    """InvalidLine unless a line of one sign."""
    if not is_line(signs, sign) or len(sign) != 1:
        raise InvalidLine(sign)


def check_lines(signs, lines):
    """InvalidLines unless a list of lines of the signs."""
    if not is_list(lines):
        raise InvalidLines(None)
    for position, line in enumerate(lines):
        if not is_line(signs, line):
            raise InvalidLines(position)


def check_count(value):
    """InvalidCount unless a COUNT."""
    if not is_count(value):
        raise InvalidCount(value)


def is_state(value, states):
    """Whether the value is the number of one of so many states."""
    return is_integer(value) and value >= 0 and value < states


def is_row(value, size, states):
    """Whether the value is a list of so many numbers of states."""
    if not is_list(value) or len(value) != size:
        return False
    return all([is_state(state, states) for state in value])


def check_rows(signs, rows):
    """InvalidRows unless a list of rows for the signs."""
    if not is_list(rows) or len(rows) == 0:
        raise InvalidRows(None)
    for position, row in enumerate(rows):
        if not is_row(row, len(signs), len(rows)):
            raise InvalidRows(position)


def check_ends(states, ends):
    """InvalidEnds unless a list of unlike numbers of so many states."""
    if not is_list(ends):
        raise InvalidEnds(None)
    ahead = {}
    for position, end in enumerate(ends):
        if not is_state(end, states) or end in ahead:
            raise InvalidEnds(position)
        ahead[end] = True


def is_rule_line(signs, value):
    """Whether the value is a line that may stand in a rule."""
    return is_line(signs, value) and len(value) <= MOST_RULE_SIGNS


def is_rule(signs, value):
    """Whether the value is a rule [21]."""
    if not isinstance(value, tuple) or len(value) != 3:
        return False
    kind, old, new = value
    # A value of another kind is not compared with the words: it might say that it is equal.
    known = isinstance(kind, str) and kind in ("front", "whole")
    return known and is_rule_line(signs, old) and is_rule_line(signs, new)


def check_rules(signs, rules):
    """InvalidRules unless a list of rules."""
    if not is_list(rules):
        raise InvalidRules(None)
    for position, rule in enumerate(rules):
        if not is_rule(signs, rule):
            raise InvalidRules(position)
