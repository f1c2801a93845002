"""Forms, which are tuples (rows, ends) of lists: the least form [13], and pairs of forms."""

from frontlines.errors import TooMany

EITHER = ((True, True), (True, False), (False, True))
BOTH = ((True, True),)
ALONE = ((True, False),)
UNLIKE = ((True, False), (False, True))


def least_form(rows, ends, most):
    """The least form; TooMany if it has more states than most."""
    met_rows, met_ends = numbered(rows, 0, ends)
    blocks = alike_blocks(met_rows, met_ends, most)
    where = block_places(blocks)
    is_end = {end: True for end in met_ends}
    block_rows = [[where[state] for state in met_rows[block[0]]] for block in blocks]
    block_ends = [place for place, block in enumerate(blocks) if block[0] in is_end]
    return numbered(block_rows, where[0], block_ends)


def numbered(rows, start, ends):
    """The form of the states that are met from the start on, numbered as they are met."""
    met = [start]
    places = {start: 0}
    met_rows = []
    while len(met_rows) < len(met):
        row = rows[met[len(met_rows)]]
        for state in row:
            if state not in places:
                places[state] = len(met)
                met.append(state)
        met_rows.append(tuple([places[state] for state in row]))
    is_end = {end: True for end in ends}
    return met_rows, [place for place, state in enumerate(met) if state in is_end]


def alike_blocks(rows, ends, most):
    """The lists of the states that no line tells apart, by Hopcroft's splitting.

    Blocks are only ever split, so that as soon as there are too many, the least form has too many states.
    """
    backs = [back_steps(rows, place) for place in range(len(rows[0]))]
    blocks = list(first_blocks(len(rows), ends))
    where = list(block_places(blocks))
    todo = list(range(len(blocks)))
    while todo:
        splitter = blocks[todo.pop()]
        for back in backs:
            parts = parts_leading(splitter, back, where)
            for part in parts:
                place = where[part[0]]
                small, large = halves(blocks[place], part)
                if small:
                    # The smaller half is enough to split by, as the larger one has been or waits to be used.
                    blocks[place] = large
                    for state in small:
                        where[state] = len(blocks)
                    todo.append(len(blocks))
                    blocks.append(small)
                if len(blocks) > most:
                    raise TooMany("states", most)
    return blocks


def first_blocks(states, ends):
    """The states that are ends, and those that are not, as far as there are some."""
    is_end = {end: True for end in ends}
    others = [state for state in range(states) if state not in is_end]
    return [block for block in (list(ends), others) if block]


def block_places(blocks):
    """For each state the place of its block."""
    where = [0 for block in blocks for _ in block]
    for place, block in enumerate(blocks):
        for state in block:
            where[state] = place
    return where


def back_steps(rows, place):
    """A tuple (starts, sources): by this sign those lead to a state that stand from its start to the next one."""
    steps = sorted([(row[place], state) for state, row in enumerate(rows)])
    starts = [0 for _ in range(len(rows) + 1)]
    for target, _ in steps:
        starts[target + 1] = starts[target + 1] + 1
    for state in range(len(rows)):
        starts[state + 1] = starts[state + 1] + starts[state]
    return starts, [state for _, state in steps]


def parts_leading(splitter, back, where):
    """The states that lead into the splitter, a list for each block in which there are some."""
    starts, sources = back
    leading = [source for state in splitter for source in sources[starts[state]:starts[state + 1]]]
    ranked = sorted([(where[source], source) for source in leading])
    cuts = [at for at in range(len(ranked)) if at == 0 or ranked[at][0] != ranked[at - 1][0]]
    return [[pair[1] for pair in ranked[low:high]] for low, high in zip(cuts, cuts[1:] + [len(ranked)])]


def halves(block, part):
    """The part of a block and the rest of it, the smaller one first; it is empty if there is no rest."""
    if len(part) == len(block):
        return [], block
    is_in = {state: True for state in part}
    rest = [state for state in block if state not in is_in]
    return (part, rest) if len(part) < len(rest) else (rest, part)


def paired(one, other, wanted):
    """The form of two forms read side by side; ends are the pairs whose (is an end, is an end) is wanted.

    Its states are numbered as they are met, as those of a least form are.
    """
    one_rows, one_ends = one
    other_rows, other_ends = other
    pairs = [(0, 0)]
    places = {(0, 0): 0}
    rows = []
    while len(rows) < len(pairs):
        left, right = pairs[len(rows)]
        row = list(zip(one_rows[left], other_rows[right]))
        for pair in row:
            if pair not in places:
                places[pair] = len(pairs)
                pairs.append(pair)
        rows.append(tuple([places[pair] for pair in row]))
    in_one = {end: True for end in one_ends}
    in_other = {end: True for end in other_ends}
    told = [(left in in_one, right in in_other) for left, right in pairs]
    return rows, [place for place, ends in enumerate(told) if ends in wanted]
