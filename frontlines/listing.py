"""Which lines a form accepts: the least one, the first ones, and how many there are."""


def first_line_of(signs, rows, ends):
    """The least line that a form accepts whose states are numbered as they are met; None."""
    if not ends:
        return None
    steps = {}
    for state, row in enumerate(rows):
        for sign, target in zip(signs, row):
            # States are met in the order of the least lines to them, so the first step to a state is on its least one.
            if target != 0 and target not in steps:
                steps[target] = (state, sign)
    found = []
    state = ends[0]
    while state != 0:
        state, sign = steps[state]
        found.append(sign)
    return "".join(found[::-1])


def how_many_of(rows, ends, size):
    """How many lines of so many signs a form accepts."""
    counts = {0: 1}
    for _ in range(size):
        behind = {}
        for state, count in counts.items():
            for target in rows[state]:
                behind[target] = behind.get(target, 0) + count
        counts = behind
    return sum([counts.get(end, 0) for end in ends])


def is_finite_form(rows, ends):
    """Whether a least form accepts finitely many lines.

    A line with as many signs as there are states comes to some state twice; so none but a dead one is left then.
    """
    met = {0: True}
    for _ in rows:
        met = {target: True for state in met for target in rows[state]}
    return all([is_dead(rows, ends, state) for state in met])


def is_dead(rows, ends, state):
    """Whether a state of a least form leads to no end: such states are alike, so it leads to itself alone."""
    return state not in ends and all([target == state for target in rows[state]])


def first_lines_of(signs, rows, ends, many):
    """The first so many lines that a least form accepts, or all of them."""
    backs = back_masks(rows)
    # Bit k of alive[size] tells whether some line of so many signs leads from the state k to an end.
    alive = [mask_of(ends)]
    finite = is_finite_form(rows, ends)
    lines = []
    while len(lines) < many and not (finite and len(alive) > len(rows)):
        lines.extend(lines_of_size(signs, rows, alive, many - len(lines)))
        alive.append(masked_back(backs, alive[-1]))
    return lines


def mask_of(states):
    """The number whose bits are set at these states."""
    return sum([1 << state for state in states])


def back_masks(rows):
    """For each state the mask of those from which some sign leads to it."""
    masks = [0 for _ in rows]
    for state, row in enumerate(rows):
        for target in row:
            masks[target] = masks[target] | (1 << state)
    return masks


def masked_back(backs, mask):
    """The mask of the states from which some sign leads to one of the mask."""
    found = 0
    left = mask
    while left > 0:
        low = left & -left
        found = found | backs[low.bit_length() - 1]
        left = left - low
    return found


def lines_of_size(signs, rows, alive, many):
    """The first so many accepted lines with as many signs as the last of alive tells of.

    Each kept beginning leads to a line, so that no more beginnings than lines are needed.
    """
    if not alive[-1] & 1:
        return []
    nodes = [(0, 0, "")]
    front = [0]
    for mask in alive[:-1][::-1]:
        behind = []
        for node in front:
            row = rows[nodes[node][0]]
            for sign, target in zip(signs, row):
                if len(behind) < many and (mask >> target) & 1:
                    behind.append(len(nodes))
                    nodes.append((target, node, sign))
        front = behind
    return [line_behind(nodes, node) for node in front]


def line_behind(nodes, node):
    """The signs on the way to a node, from the first one on."""
    found = []
    while node != 0:
        _, node, sign = nodes[node]
        found.append(sign)
    return "".join(found[::-1])
