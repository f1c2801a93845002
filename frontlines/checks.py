"""The errors of wrong parameters, each raised where its value is not valid."""

from frontlines.errors import (
    InvalidBody,
    InvalidCare,
    InvalidChain,
    InvalidCount,
    InvalidEnds,
    InvalidLevel,
    InvalidLine,
    InvalidLines,
    InvalidLook,
    InvalidMark,
    InvalidMarks,
    InvalidMessage,
    InvalidRole,
    InvalidRows,
    InvalidRules,
    InvalidSight,
    InvalidSigns,
    InvalidTail,
    InvalidTree,
    InvalidWidth,
    OtherSigns,
)
from frontlines.lines import is_count, is_integer, is_line, is_list, is_signs
from frontlines.words import CARE_WORDS, CARES, LOOKS, ROLE_WORDS, RULE_WORDS, SIGHTS

MOST_RULE_SIGNS = 40
MOST_MARK_SIGNS = 12
MOST_TAIL_SIGNS = 3
MOST_WIDTH = 4


def check_signs(signs):
    """InvalidSigns unless signs."""
    if not is_signs(signs):
        raise InvalidSigns(signs)


def check_same_signs(one, other):
    """OtherSigns unless both signs are the same."""
    if one != other:
        raise OtherSigns(one, other)


def check_line(signs, line):
    """InvalidLine unless a line of the signs."""
    if not is_line(signs, line):
        raise InvalidLine(line)


def check_sign(signs, sign):
    """InvalidLine unless a line of one sign."""
    if not is_line(signs, sign) or len(sign) != 1:
        raise InvalidLine(sign)


def check_lines(signs, lines):
    """InvalidLines unless a list of lines of the signs."""
    if not is_list(lines):
        raise InvalidLines(None)
    for position, line in enumerate(lines):
        if not is_line(signs, line):
            raise InvalidLines(position)


def check_count(value):
    """InvalidCount unless a COUNT."""
    if not is_count(value):
        raise InvalidCount(value)


def is_place(value, many):
    """Whether the value is the number of one of so many things, from 0 on."""
    return is_integer(value) and value >= 0 and value < many


def is_row(value, size, states):
    """Whether the value is a list of so many numbers of states."""
    if not is_list(value) or len(value) != size:
        return False
    return all([is_place(state, states) for state in value])


def check_rows(signs, rows):
    """InvalidRows unless a list of rows for the signs."""
    if not is_list(rows) or len(rows) == 0:
        raise InvalidRows(None)
    for position, row in enumerate(rows):
        if not is_row(row, len(signs), len(rows)):
            raise InvalidRows(position)


def check_ends(states, ends):
    """InvalidEnds unless a list of unlike numbers of so many states."""
    if not is_list(ends):
        raise InvalidEnds(None)
    ahead = {}
    for position, end in enumerate(ends):
        if not is_place(end, states) or end in ahead:
            raise InvalidEnds(position)
        ahead[end] = True


def is_word(value, words):
    """Whether the value is one of the words."""
    # A value of another kind is not compared with the words: it might say that it is equal.
    return isinstance(value, str) and value in words


def is_rule_line(signs, value):
    """Whether the value is a line that may stand in a rule."""
    return is_line(signs, value) and len(value) <= MOST_RULE_SIGNS


def is_rule(signs, value):
    """Whether the value is a rule [21]."""
    if not isinstance(value, tuple) or len(value) != 3:
        return False
    kind, old, new = value
    return is_word(kind, RULE_WORDS) and is_rule_line(signs, old) and is_rule_line(signs, new)


def check_rules(signs, rules):
    """InvalidRules unless a list of rules."""
    if not is_list(rules):
        raise InvalidRules(None)
    for position, rule in enumerate(rules):
        if not is_rule(signs, rule):
            raise InvalidRules(position)


def is_chain_for(many, value):
    """Whether the value is a chain for so many relays."""
    return is_list(value) and all([is_place(number, many) for number in value])


def check_chain(many, chain):
    """InvalidChain unless a list of numbers of so many relays."""
    if not is_list(chain):
        raise InvalidChain(None)
    for position, number in enumerate(chain):
        if not is_place(number, many):
            raise InvalidChain(position)


def is_mark(signs, value):
    """Whether the value is a mark of the signs."""
    return is_line(signs, value) and len(value) >= 1 and len(value) <= MOST_MARK_SIGNS


def check_mark(signs, mark):
    """InvalidMark unless a mark of the signs."""
    if not is_mark(signs, mark):
        raise InvalidMark(mark)


def check_marks(signs, marks, most):
    """InvalidMarks unless a list of unlike marks, at least one and at most so many."""
    if not is_list(marks) or len(marks) == 0 or len(marks) > most:
        raise InvalidMarks(None)
    for position, mark in enumerate(marks):
        if not is_mark(signs, mark) or mark in marks[:position]:
            raise InvalidMarks(position)


def is_sight(signs, value):
    """Whether the value is a sight for lines of the signs."""
    return is_word(value, SIGHTS) or (is_line(signs, value) and len(value) == 1)


def check_sight(signs, sight):
    """InvalidSight unless a sight."""
    if not is_sight(signs, sight):
        raise InvalidSight(sight)


def check_look(look):
    """InvalidLook unless a look."""
    if not is_word(look, LOOKS):
        raise InvalidLook(look)


def check_body(signs, body):
    """InvalidBody unless a list of lines of the signs."""
    if not is_list(body):
        raise InvalidBody(None)
    for position, line in enumerate(body):
        if not is_line(signs, line):
            raise InvalidBody(position)


def is_tail(signs, value):
    """Whether the value is a tail of the signs."""
    return is_line(signs, value) and len(value) >= 1 and len(value) <= MOST_TAIL_SIGNS


def check_tail(signs, tail):
    """InvalidTail unless a tail of the signs."""
    if not is_tail(signs, tail):
        raise InvalidTail(tail)


def check_care_name(name, value):
    """InvalidCare unless the name is that of a care."""
    if not is_word(name, CARES):
        raise InvalidCare(name, value)


def check_care(signs, name, value):
    """InvalidCare unless the value is a word of the care of this name."""
    known = is_sight(signs, value) if name == "sight" else is_word(value, CARE_WORDS[name])
    if not known:
        raise InvalidCare(name, value)


def is_level(depth, value):
    """Whether the value is a level of a reader of this depth."""
    return is_integer(value) and value >= 1 and value <= depth


def check_level(depth, level):
    """InvalidLevel unless a level of a reader of this depth."""
    if not is_level(depth, level):
        raise InvalidLevel(level)


def is_role(depth, value):
    """Whether the value is a role of a reader of this depth."""
    if not isinstance(value, tuple) or len(value) != 2:
        return False
    return is_word(value[0], ROLE_WORDS) and is_level(depth, value[1])


def check_role(depth, role):
    """InvalidRole unless a role of a reader of this depth."""
    if not is_role(depth, role):
        raise InvalidRole(role)


def is_tree_of(signs, depth, value):
    """Whether the value is a tree of the depth, of lines of the signs."""
    if not is_list(value):
        return False
    if depth == 0:
        return all([is_line(signs, line) for line in value])
    return all([is_tree_of(signs, depth - 1, part) for part in value])


def check_tree(signs, depth, tree):
    """InvalidTree unless a tree of the depth, of lines of the signs."""
    if not is_tree_of(signs, depth, tree):
        raise InvalidTree(tree)


def is_message(signs, value):
    """Whether the value is a list of lines of the signs."""
    return is_list(value) and all([is_line(signs, line) for line in value])


def check_message(signs, message):
    """InvalidMessage unless a list of lines of the signs."""
    if not is_list(message):
        raise InvalidMessage(None)
    for position, line in enumerate(message):
        if not is_line(signs, line):
            raise InvalidMessage(position)


def check_width(width):
    """InvalidWidth unless an INTEGER from 1 to 4."""
    if not is_integer(width) or width < 1 or width > MOST_WIDTH:
        raise InvalidWidth(width)
