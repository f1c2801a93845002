"""Menus [44]: groups of lines that bar a menu alike, sorts of lines, and the least full body."""

from frontlines.errors import TooMany
from frontlines.lines import line_order
from frontlines.listing import how_many_of, line_behind, mask_of

MOST_GROUPS = 2000


class Groups:
    """The groups of a menu, numbered as they are met: what is behind each, how it was met first, and its sort."""

    def __init__(self, letters, forms):
        """From the least form of the lines that bar each mark: so groups are just the states side by side."""
        self.letters = letters
        self.behind = []
        self.origins = [(0, 0, "")]
        met = [tuple([0 for _ in forms])]
        places = {met[0]: 0}
        while len(self.behind) < len(met):
            row = []
            for place, sign in enumerate(letters):
                pairs = list(zip(forms, met[len(self.behind)]))
                group = tuple([rows[state][place] for (rows, _), state in pairs])
                if group not in places:
                    places[group] = len(met)
                    met.append(group)
                    self.origins.append((0, len(self.behind), sign))
                row.append(places[group])
            if len(met) > MOST_GROUPS:
                raise TooMany("groups", MOST_GROUPS)
            self.behind.append(tuple(row))
        self.kinds = [sort_of(forms, group) for group in met]


def sort_of(forms, group):
    """The rising tuple of the places of the forms that accept the lines of the group."""
    return tuple([place for place, (_, ends) in enumerate(forms) if group[place] in ends])


def sorts_of(groups):
    """The list of the tuples (sort, least line) of all sorts, in the order of the lines."""
    least = {}
    for place, kind in enumerate(groups.kinds):
        if kind not in least:
            least[kind] = line_behind(groups.origins, place)
    return list(least.items())


def count_let_of(groups, size):
    """How many lines of so many signs bar no mark."""
    ends = [place for place, kind in enumerate(groups.kinds) if kind == ()]
    return how_many_of(groups.behind, ends, size)


def least_full_of(sorts, many):
    """The least full body of lines for so many marks, of the sorts with their least lines; None.

    Any other line of a sort is behind its least one. Bit k of a mask is set if the mark k is still to be barred.
    """
    least = {0: []}
    for mask in range(1, 1 << many):
        bodies = []
        for sort, line in sorts:
            rest = mask & ~mask_of(sort)
            if rest != mask and rest in least:
                bodies.append([line] + least[rest])
        if bodies:
            least[mask] = min(bodies, key=body_order)
    return least.get((1 << many) - 1)


def body_order(body):
    """What bodies are sorted by: how many lines they have, then line by line."""
    return (len(body), [line_order(line) for line in body])
