"""Slow and plain versions of what trees, breaks and alike tell, and small readers and trees to hold them against.

Readers are asked for their parts and cares alone; relays are given by their rules, which make no line longer.
"""

from itertools import product

from frontlines.readers import Reader
from tests import brute, slow

CARES = {"order": ("inner", "outer"), "further": ("refuse", "close"), "finish": ("refuse", "close")}


def some_reader(source, depth=3, signs=None):
    """A small reader with any cares."""
    signs = signs or source.choice(["ab", "->a"])
    lines = [line for line in brute.lines_up_to(signs, 2) if line]
    marks = source.sample(lines, source.randrange(1, depth + 1))
    cares = {name: source.choice(words) for name, words in CARES.items()}
    sight = source.choice(["whole", "whole", "start", *signs])
    return Reader(signs, marks, source.choice(lines[:len(signs) + 2]), sight=sight, **cares)


def every_care(reader):
    """The reader with each word of each of its cares."""
    found = []
    for sight, order, further, finish in product(["whole", "start", *reader.signs], *CARES.values()):
        cares = {"sight": sight, "order": order, "further": further, "finish": finish}
        found.append(Reader(reader.signs, reader.marks(), reader.tail, **cares))
    return found


def role_at(reader, line, level):
    return slow.taken(reader.marks(), reader.tail, reader.sight, reader.order, line, level)


def role_lines(reader):
    return [slow.role_line(reader.marks(), reader.tail, role) for role in slow.roles(reader.marks())]


def some_tree(source, reader, lines):
    """A tree of the reader's depth, of these lines."""
    def parts(level):
        if level > reader.depth:
            return [source.choice(lines) for _ in range(source.randrange(4))]
        return [parts(level + 1) for _ in range(source.randrange(3))]
    return parts(1)


def written(reader, tree):
    """The tuples (line, what it is told as) of what is written for the tree."""
    def at(part, level):
        if level > reader.depth:
            return [(line, ("line", 0)) for line in part]
        mark = reader.marks()[level - 1]
        rows = []
        for inner in part:
            rows += [(mark, ("next", level))] + at(inner, level + 1)
        return rows + [(mark + reader.tail, ("end", level))]
    return at(tree, 1)


def read(reader, message):
    """A tuple (stands, telling or None)."""
    level, in_body, tellings, stands = 1, False, [], [(1, "wait")]
    for line in message:
        if level == 0:
            return stands, None
        role = role_at(reader, line, level)
        if role is None and not in_body:
            return stands, None
        if role is not None:
            word, at = role
            if at < level and reader.further == "refuse":
                return stands, None
            in_body = word == "next" and at == reader.depth
            level = at - 1 if word == "end" else at if in_body else at + 1
        tellings.append(role or ("line", 0))
        stands.append((level, "body" if in_body else "wait"))
    return stands, None if level > 0 and reader.finish == "refuse" else tellings


def tree_of(depth, tellings, message):
    """The tree that the lines make, each put at the end of what is last at its level."""
    tree = []
    for (word, level), line in zip(tellings, message):
        place = tree
        for _ in range(depth if word == "line" else level - 1):
            place = place[-1]
        if word != "end":
            place.append(line if word == "line" else [])
    return tree


def some_message(source, reader, lines, roles=0.6):
    """A message of lines, many of them those of roles."""
    mine = role_lines(reader)
    return [source.choice(mine if source.random() < roles else lines) for _ in range(source.randrange(9))]


def changed(source, message, lines):
    """The message with a line away, put in, doubled, written otherwise, or some of it put behind."""
    kind, at = source.randrange(5), source.randrange(len(message) + 1)
    if kind == 0:
        return message[:at] + message[at + 1:]
    if kind == 1:
        return message[:at] + [source.choice(lines)] + message[at:]
    if kind == 2:
        return message[:at] + message[at:at + 1] + message[at:]
    if kind == 3:
        return message[:at] + [source.choice(lines)] + message[at + 1:]
    return message + message[at:]


def turned(rules, line, chain):
    for number in chain:
        line = brute.turned(rules[number], line)
    return line


def goes_wrong(scheme, told, tree, chain):
    """Whether the tree and the chain go wrong in the scheme that is told by its parts."""
    rows = written(scheme.reader, tree)
    if not all(told.lets(line) for line, kind in rows if kind == ("line", 0)):
        return False
    return read(scheme.reader, [turned(told.relays, line, chain) for line, _ in rows])[1] != [kind for _, kind in rows]


def pieces(line, width):
    found = [line[:width]]
    while len(line) > width:
        line = line[width:]
        found.append(line[:width])
    return found


def broken(rules, width, line):
    """The lines that come of the line by turning and breaking, in any sequence."""
    found, todo = {line}, [line]
    while todo:
        each = todo.pop()
        for new in [brute.turned(relay, each) for relay in rules] + pieces(each, width):
            if new not in found:
                found.add(new)
                todo.append(new)
    return found


def view(one, other, line):
    """The roles that both readers see in the line."""
    return tuple(
        [role for role in slow.roles(reader.marks())
         if slow.sees(reader.sight, slow.role_line(reader.marks(), reader.tail, role), line)]
        for reader in (one, other)
    )


def views(one, other, size):
    """The tuples (roles, roles, line) of the views of all lines of so many signs, with the least line of each."""
    found = {}
    for line in brute.lines_up_to(one.signs, size):
        seen = view(one, other, line)
        found.setdefault(repr(seen), (*seen, line))
    return list(found.values())


def unlike_message(one, other, lines, most):
    """The first message of at most so many of these lines, which are in order, at which both are unlike; None."""
    for size in range(most + 1):
        for message in product(lines, repeat=size):
            if read(one, message)[1] != read(other, message)[1]:
                return list(message)
    return None
