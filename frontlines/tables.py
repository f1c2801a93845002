"""Tables of relays [22], and what is read off them.

An index is a dict from (kind, old) to (place, new) of the first such rule. Lists of indexes stand for the relays
that turn a line one after another. Uneven lines, those at which the relays are not even, are the keys of a dict.
"""

from frontlines.checks import MOST_RULE_SIGNS
from frontlines.errors import TooMany
from frontlines.lines import in_order

MOST_CELLS = 400


def rule_index(rules):
    """The index of the rules."""
    index = {}
    for place, (kind, old, new) in enumerate(rules):
        if (kind, old) not in index:
            index[(kind, old)] = (place, new)
    return index


def turned_once(index, line):
    """What the first rule that fits makes of the line."""
    fitting = []
    if ("whole", line) in index:
        fitting.append(index[("whole", line)])
    for size in range(min(len(line), MOST_RULE_SIGNS) + 1):
        if ("front", line[:size]) in index:
            place, new = index[("front", line[:size])]
            fitting.append((place, new + line[size:]))
    return min(fitting)[1] if fitting else line


def turned_through(indexes, line):
    """What the relays, one after another, make of the line."""
    found = line
    for index in indexes:
        found = turned_once(index, found)
    return found


def beginnings(index):
    """All beginnings of the lines that the rules ask for, in order: behind others a relay is even."""
    found = {}
    for _, old in index:
        for size in range(len(old) + 1):
            found[old[:size]] = True
    return in_order(found)


def uneven_lines(signs, indexes, lines, known):
    """The known uneven lines, and those among the lines, which are in order and lack no further one.

    Relays are even at a line exactly if each sign behind it stays as it is and they are even at the line with it.
    """
    uneven = dict(known)
    for line in lines[::-1]:
        if not is_even_by_signs(signs, indexes, line, uneven):
            uneven[line] = True
    return uneven


def is_even_by_signs(signs, indexes, line, uneven):
    """Whether the relays are even at the line, if the longer uneven lines are known."""
    found = turned_through(indexes, line)
    for sign in signs:
        if line + sign in uneven or turned_through(indexes, line + sign) != found + sign:
            return False
    return True


def uneven_of(signs, index):
    """The uneven lines of one relay."""
    return uneven_lines(signs, [index], beginnings(index), {})


def check_cells(signs, uneven):
    """TooMany if the table with these uneven lines has too many cells."""
    # Each uneven line is one cell, and has another one behind each sign; the empty line is one in any case.
    if len(uneven) * len(signs) + 1 > MOST_CELLS:
        raise TooMany("cells", MOST_CELLS)


def cells_of(signs, indexes, uneven):
    """The cells of the relays, one after another, in the sequence of the table."""
    kinds = {"": "front"}
    for line in uneven:
        for sign in signs:
            kinds[line + sign] = "front"
    for line in uneven:
        kinds[line] = "whole"
    return [(kinds[line], line, turned_through(indexes, line)) for line in in_order(kinds)]


def table_of(signs, index):
    """The table of one relay, however many cells it has."""
    return cells_of(signs, [index], uneven_of(signs, index))


def limited_table(signs, index):
    """The table of one relay; TooMany if it has too many cells."""
    uneven = uneven_of(signs, index)
    check_cells(signs, uneven)
    return cells_of(signs, [index], uneven)


def product_table(signs, one, other):
    """The table of two relays, one after another; TooMany if it has too many cells."""
    inner = uneven_of(signs, one)
    outer = uneven_of(signs, other)
    known = {}
    for kind, line, new in cells_of(signs, [one], inner):
        # Where the first relay is even, both are exactly if the second one is.
        if kind == "front":
            for end in uneven_ends(signs, new, outer):
                known[line + end] = True
            check_cells(signs, known)
    uneven = uneven_lines(signs, [one, other], in_order(inner), known)
    check_cells(signs, uneven)
    return cells_of(signs, [one, other], uneven)


def uneven_ends(signs, line, uneven):
    """The lines that can stand behind the line so that it is uneven: with a line its beginnings are so, too."""
    found = []
    if line in uneven:
        found.append("")
    at = 0
    while at < len(found):
        for sign in signs:
            if line + found[at] + sign in uneven:
                found.append(found[at] + sign)
        at = at + 1
    return found


def changing_cells(cells):
    """The cells that change their line; TooMany if a line in one of them has too many signs for a rule."""
    found = [cell for cell in cells if cell[1] != cell[2]]
    for _, old, new in found:
        if max(len(old), len(new)) > MOST_RULE_SIGNS:
            raise TooMany("signs", MOST_RULE_SIGNS)
    return found
