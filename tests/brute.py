"""Slow and plain versions of what the package tells, to hold its results against."""

from itertools import product


def lines_up_to(signs, most):
    """All lines of at most so many signs, in order."""
    return ["".join(line) for size in range(most + 1) for line in product(signs, repeat=size)]


def order(line):
    return (len(line), line)


def accepts(signs, rows, ends, line):
    state = 0
    for sign in line:
        state = rows[state][signs.index(sign)]
    return state in ends


def random_form(random, signs, states):
    rows = [tuple(random.randrange(states) for _ in signs) for _ in range(states)]
    ends = [state for state in range(states) if random.random() < 0.4]
    random.shuffle(ends)
    return rows, ends


def least(signs, rows, ends):
    """The least form, by marking pairs of states that are told apart."""
    unlike = {(p, q) for p in range(len(rows)) for q in range(len(rows)) if (p in ends) != (q in ends)}
    while True:
        more = {
            (p, q)
            for p in range(len(rows))
            for q in range(len(rows))
            if (p, q) not in unlike and any(pair in unlike for pair in zip(rows[p], rows[q]))
        }
        if not more:
            break
        unlike |= more
    first = [min(q for q in range(len(rows)) if (p, q) not in unlike) for p in range(len(rows))]
    met = [first[0]]
    for state in met:
        for target in rows[state]:
            if first[target] not in met:
                met.append(first[target])
    new_rows = [tuple(met.index(first[target]) for target in rows[state]) for state in met]
    return new_rows, [place for place, state in enumerate(met) if state in ends]


def renumbered(random, rows, ends):
    """The same form with the states but 0 in another sequence."""
    order_of = list(range(1, len(rows)))
    random.shuffle(order_of)
    olds = [0] + order_of
    news = {old: new for new, old in enumerate(olds)}
    return [tuple(news[target] for target in rows[old]) for old in olds], [news[end] for end in ends]


def turned(rules, line):
    for kind, old, new in rules:
        if kind == "front" and line.startswith(old):
            return new + line[len(old):]
        if kind == "whole" and line == old:
            return new
    return line


def turned_by_all(relays, line):
    for rules in relays:
        line = turned(rules, line)
    return line


def reach(relays):
    """Behind so many signs at the latest the relays, one after another, are even."""
    return sum(max([len(old) for _, old, _ in rules], default=0) for rules in relays)


def is_even(signs, relays, line):
    found = turned_by_all(relays, line)
    behind = lines_up_to(signs, max(0, reach(relays) + 1 - len(line)))
    return all(turned_by_all(relays, line + end) == found + end for end in behind)


def table(signs, relays):
    """The table of some relays, one after another, each given by its rules."""
    cells = []
    todo = [""]
    while todo:
        line = todo.pop()
        even = is_even(signs, relays, line)
        cells.append(("front" if even else "whole", line, turned_by_all(relays, line)))
        if not even:
            todo.extend(line + sign for sign in signs)
    return sorted(cells, key=lambda cell: order(cell[1]))


def random_rules(random, signs, most, size):
    def line():
        return "".join(random.choice(signs) for _ in range(random.randrange(size + 1)))
    return [(random.choice(["front", "front", "whole"]), line(), line()) for _ in range(random.randrange(most + 1))]
