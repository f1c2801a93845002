"""Forms of simple sets of lines, which need not be least."""

from frontlines.errors import TooMany
from frontlines.forms import numbered


def path_form(signs, line, loops):
    """The line, and behind it any signs that are among the loops."""
    dead = len(line) + 1
    rows = [[place + 1 if sign == wanted else dead for sign in signs] for place, wanted in enumerate(line)]
    rows.append([len(line) if sign in loops else dead for sign in signs])
    rows.append([dead for _ in signs])
    return rows, [len(line)]


def having_form(signs, line):
    """The lines in which the line stands: a state tells how much of it was read last."""
    rows = []
    # Behind a wrong sign it goes on as if reading had begun one sign later; back is where that leads.
    back = 0
    for place, wanted in enumerate(line):
        others = rows[back] if place > 0 else [0 for _ in signs]
        rows.append([place + 1 if sign == wanted else state for sign, state in zip(signs, others)])
        back = others[signs.index(wanted)]
    rows.append([len(line) for _ in signs])
    return rows, [len(line)]


def longer_form(signs, size):
    """The lines of more than so many signs."""
    rows = [[min(state + 1, size + 1) for _ in signs] for state in range(size + 2)]
    return rows, [size + 1]


def lines_form(signs, lines, most):
    """Just these lines; TooMany if the least form has more states than most."""
    longest = max([len(line) for line in lines], default=0)
    # Each beginning of a longest line has a state of its own, and so has what leads to no line.
    if longest + 2 > most:
        raise TooMany("states", most)
    rows, ends = tree_of(signs, lines)
    dead = (False, tuple([0 for _ in signs]))
    kinds = {dead: 0}
    where = [0 for _ in rows]
    # From the last one on, so that what a state leads to is known. The 0 of a missing state is still the dead kind's.
    for state in range(len(rows) - 1, -1, -1):
        kind = (state in ends, tuple([where[target] for target in rows[state]]))
        if kind not in kinds:
            kinds[kind] = len(kinds)
        where[state] = kinds[kind]
        if len(kinds) > most:
            raise TooMany("states", most)
    kind_ends = [place for place, (is_end, _) in enumerate(kinds) if is_end]
    return numbered([row for _, row in kinds], where[0], kind_ends)


def tree_of(signs, lines):
    """The rows of a state for each beginning of a line, 0 where there is no such one, and a dict of the ends."""
    rows = [[0 for _ in signs]]
    ends = {}
    for line in lines:
        state = 0
        for sign in line:
            place = signs.index(sign)
            if rows[state][place] == 0:
                rows[state][place] = len(rows)
                rows.append([0 for _ in signs])
            state = rows[state][place]
        ends[state] = True
    return rows, ends
