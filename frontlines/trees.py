"""Trees of parts, how they are written and read [61], and what goes wrong on the way [63]."""

from frontlines.chains import limited_chain, line_turned
from frontlines.checks import check_chain, check_message, check_tree, is_chain_for, is_tree_of
from frontlines.faults import are_let_by, first_fault_of
from frontlines.stands import PLAIN, course_of, telling_of
from frontlines.turns import turns_of


def is_tree(reader, value):
    """Whether the value is a tree of the reader's depth."""
    return is_tree_of(reader.signs, reader.depth, value)


def lines_written(reader, tree, level):
    """The list of the tuples (line, what it is told as) of the lines that are written at the level."""
    found = []
    for part in tree:
        found.append((reader.line_of(("next", level)), ("next", level)))
        if level == reader.depth:
            found.extend([(line, PLAIN) for line in part])
        else:
            found.extend(lines_written(reader, part, level + 1))
    found.append((reader.line_of(("end", level)), ("end", level)))
    return found


def written(reader, tree):
    """The message of the lines that are written for the tree."""
    check_tree(reader.signs, reader.depth, tree)
    return [line for line, _ in lines_written(reader, tree, 1)]


def own_telling(reader, tree):
    """What the lines that are written for the tree are to be told as."""
    check_tree(reader.signs, reader.depth, tree)
    return [told for _, told in lines_written(reader, tree, 1)]


def telling(reader, message):
    """The list of what the lines of the message are told as; None if it is refused."""
    check_message(reader.signs, message)
    return telling_of(reader, message)


def course(reader, message):
    """The list of the stands: the first one, and the one behind each line that is told."""
    check_message(reader.signs, message)
    return course_of(reader, message)[0]


def tree_read(reader, message):
    """The tree that is read from the message; None if it is refused."""
    check_message(reader.signs, message)
    tellings = telling_of(reader, message)
    if tellings is None:
        return None
    # The last part of each level, behind the tree itself.
    last = [[]]
    for (word, level), line in zip(tellings, message):
        if word == "next":
            part = []
            last = last[:level]
            last[-1].append(part)
            last.append(part)
        if word == "line":
            last[-1].append(line)
    return last[0]


def goes_wrong(scheme, tree, chain):
    """Whether all lines of the tree's bodies are let, and behind the chain it has not its own telling."""
    check_tree(scheme.signs, scheme.reader.depth, tree)
    check_chain(len(scheme.relays()), chain)
    return is_wrong(scheme, tree, chain)


def is_wrong(scheme, tree, chain):
    """Whether a tree and a chain that are known to be such go wrong."""
    reader = scheme.reader
    relays = scheme.relays()
    pairs = lines_written(reader, tree, 1)
    bodies = {line: True for line, told in pairs if told == PLAIN}
    if not are_let_by(reader, relays, scheme.look, list(bodies)):
        return False
    lines = {line: True for line, _ in pairs}
    behind = {line: line_turned(relays, line, chain) for line in lines}
    return telling_of(reader, [behind[line] for line, _ in pairs]) != [told for _, told in pairs]


def tree_with(depth, word, line):
    """A tree of the depth in which the line of a fault is written as early as may be, behind kept lines alone.

    These are the first lines of the levels around it, whose roles are ahead of the fault's.
    """
    if word == "body":
        return parts_within(depth, [line])
    kind, level = word
    return parts_within(level if kind == "next" else level - 1, [])


def parts_within(many, innermost):
    """One part within another, so many of them, around what is innermost."""
    tree = innermost
    for _ in range(many):
        tree = [tree]
    return tree


def wrong_way(scheme):
    """A tuple of a tree and a chain that go wrong; None if the scheme is sound."""
    fault = first_fault_of(scheme.reader, turns_of(scheme.relays()), scheme.look)
    if fault is None:
        return None
    word, line, net = fault
    return tree_with(scheme.reader.depth, word, line), limited_chain(net, line)


def is_wrong_way(scheme, value):
    """Whether the value is a tuple of a tree and a chain that go wrong."""
    if not isinstance(value, tuple) or len(value) != 2:
        return False
    tree, chain = value
    return is_tree(scheme.reader, tree) and is_chain_for(len(scheme.relays()), chain) and is_wrong(scheme, tree, chain)
