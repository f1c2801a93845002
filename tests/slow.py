"""Slow and plain versions of what chains, writers, readers and schemes tell.

Relays are given by their rules. Where all chains are gone through, no rule may make a line longer.
"""

from itertools import combinations

from tests import brute

SIGHTS = ("whole", "start")
LOOKS = ("none", "whole", "start", "part", "any")


def shrinking_rules(random, signs, most, size):
    """Rules that make no line longer."""
    def line(longest):
        return "".join(random.choice(signs) for _ in range(random.randrange(longest + 1)))
    found = []
    for _ in range(random.randrange(most + 1)):
        old = line(size)
        found.append((random.choice(["front", "front", "whole"]), old, line(len(old))))
    return found


def reached(relays, line, most=None):
    """The lines that come of the line by chains (of so many relays at most), with the least number of relays."""
    found = {line: 0}
    layer = [line]
    while layer and (most is None or found[layer[0]] < most):
        behind = []
        for each in layer:
            for rules in relays:
                new = brute.turned(rules, each)
                if new not in found:
                    found[new] = found[each] + 1
                    behind.append(new)
        layer = behind
    return found


def steps(relays, line, is_wanted):
    """The least number of relays by which the line becomes a wanted one; None."""
    return min([number for each, number in reached(relays, line).items() if is_wanted(each)], default=None)


def sees(sight, mark, line):
    if sight == "whole":
        return line == mark
    if sight == "start":
        return line[:len(mark)] == mark
    return line == mark + sight * (len(line) - len(mark))


def bars(look, mark, line, relays, sight):
    if look == "none":
        return False
    if look == "whole":
        return line == mark
    if look == "start":
        return line[:len(mark)] == mark
    if look == "part":
        return any(line[at:at + len(mark)] == mark for at in range(len(line) + 1))
    return any(sees(sight, mark, each) for each in reached(relays, line))


def subsets(many):
    return [numbers for size in range(many + 1) for numbers in combinations(range(many), size)]


def largest(sets):
    """Those sets to which no further number can be added."""
    return sorted(one for one in sets if not any(set(one) < set(other) and len(other) == len(one) + 1 for other in sets))


def least_others(many, sets):
    """Those other sets that are among these without any one of their numbers."""
    others = [numbers for numbers in subsets(many) if numbers not in sets]
    return sorted(one for one in others if not one or all(part in sets for part in combinations(one, len(one) - 1)))


def first_unsafe(signs, relays, mark, sight, look, size, barring=None):
    """A tuple (line, steps) of the least line of at most so many signs that is seen behind a chain and does not bar."""
    for line in brute.lines_up_to(signs, size):
        number = steps(relays, line, lambda each: sees(sight, mark, each))
        if number is not None and not bars(look, mark, line, relays if barring is None else barring, sight):
            return line, number
    return None


def roles(marks):
    return [(word, level) for level in range(1, len(marks) + 1) for word in ("next", "end")]


def role_line(marks, tail, role):
    return marks[role[1] - 1] + {"next": "", "end": tail}[role[0]]


def taken(marks, tail, sight, order, line, level):
    """The role for which the line is taken if the levels 1 to level are open; None."""
    levels = range(level, 0, -1) if order == "inner" else range(1, level + 1)
    for each in levels:
        for word in ("end", "next"):
            if sees(sight, role_line(marks, tail, (word, each)), line):
                return word, each
    return None


class Told:
    """A scheme, told by its parts."""

    def __init__(self, signs, marks, tail, sight, order, relays, look):
        self.signs, self.marks, self.tail, self.sight, self.order = signs, marks, tail, sight, order
        self.relays, self.look = relays, look

    def taken(self, line, level):
        return taken(self.marks, self.tail, self.sight, self.order, line, level)

    def lets(self, line):
        lines = [role_line(self.marks, self.tail, role) for role in roles(self.marks)]
        return not any(bars(self.look, each, line, self.relays, self.sight) for each in lines)

    def faults(self, relays, size):
        """The faults by these relays, that of the body as far as lines of so many signs show it."""
        found = []
        for role in roles(self.marks):
            line = role_line(self.marks, self.tail, role)
            number = steps(relays, line, lambda each: self.taken(each, role[1]) != role)
            if number is not None:
                found.append((role, line, number))
        for line in brute.lines_up_to(self.signs, size):
            number = steps(relays, line, lambda each: self.taken(each, len(self.marks)) is not None)
            if number is not None and self.lets(line):
                return found + [("body", line, number)]
        return found
