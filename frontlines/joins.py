"""Which lines two relays turn otherwise, and which ones a relay turns to the same one."""

from frontlines.lines import in_order, line_order
from frontlines.tables import table_of, turned_once


def parting_line_of(signs, one, other):
    """The least line that the relays of both indexes turn otherwise; None.

    Behind a line at which both are even nothing new comes, so the least one is the line of a cell of either table.
    """
    lines = {}
    for index in (one, other):
        for cell in table_of(signs, index):
            lines[cell[1]] = True
    for line in in_order(lines):
        if turned_once(one, line) != turned_once(other, line):
            return line
    return None


def pair_order(pair):
    """What pairs of lines in order are sorted by: the second line, then the first one."""
    return (line_order(pair[1]), line_order(pair[0]))


def joined_lines_of(cells):
    """The first tuple of two lines in order, by pair_order, that are turned to the same one; None."""
    return min(same_pairs(cells) + front_pairs(cells), key=pair_order, default=None)


def same_pairs(cells):
    """For each cell the least other one ahead of it with the same new line: their lines."""
    least = {}
    pairs = []
    for _, line, new in cells:
        if new in least:
            pairs.append((least[new], line))
        else:
            least[new] = line
    return pairs


def front_pairs(cells):
    """For each cell the first pair of its line and one of a "front" cell with a beginning of its new line as its own.

    Signs behind both lines only make them longer, and of the cells with one new line the first one is the least.
    """
    least = {}
    for kind, line, new in cells:
        if kind == "front" and new not in least:
            least[new] = line
    pairs = []
    for _, line, new in cells:
        sizes = [size for size in range(len(new)) if new[:size] in least]
        found = [tuple(in_order([least[new[:size]] + new[size:], line])) for size in sizes]
        if found:
            pairs.append(min(found, key=pair_order))
    return pairs


def leaves_as_it_was(cells, index, uneven):
    """Whether the relay with this index and these uneven lines undoes the one with these cells."""
    for kind, line, new in cells:
        if turned_once(index, new) != line or (kind == "front" and new in uneven):
            return False
    return True
