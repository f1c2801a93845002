"""Writers, which look whether a body lets a mark [41], and which looks are safe [42]."""

from frontlines.chains import form_of, machine_of_net, told_steps
from frontlines.checks import check_body, check_count, check_look, check_mark, check_marks, check_sight
from frontlines.errors import TooMany
from frontlines.guesses import least_of
from frontlines.looks import barred_machine, is_barring, seen_machine
from frontlines.menus import MOST_GROUPS, Groups, count_let_of, least_full_of, sorts_of
from frontlines.nets import chain_net, steps_of
from frontlines.relaysets import largest_sets, least_other_sets
from frontlines.spreads import Graph, least_line_without
from frontlines.turns import check_relays, turns_of, turns_within
from frontlines.words import LOOKS

MOST_MARKS = 5
MOST_SIZE = 400


class Writer:
    """A writer with the relays that the texts go through, the sight of the reader and a look."""

    def __init__(self, relays, sight, look):
        check_relays(relays)
        check_sight(relays[0].signs, sight)
        check_look(look)
        self._relays = list(relays)
        self._signs = relays[0].signs
        self._sight = sight
        self._look = look

    @property
    def signs(self):
        """The signs of the relays."""
        return self._signs

    @property
    def sight(self):
        """How the reader sees a mark."""
        return self._sight

    @property
    def look(self):
        """Which lines bar a mark."""
        return self._look

    def relays(self):
        """The list of the relays."""
        return list(self._relays)

    def seen(self, mark):
        """The Machine of the lines that are seen as the mark."""
        check_mark(self._signs, mark)
        return seen_machine(self._signs, self._sight, mark)

    def barred(self, mark):
        """The Machine of the lines that bar the mark."""
        check_mark(self._signs, mark)
        if self._look == "any":
            return machine_of_net(self._net(mark, turns_of(self._relays)))
        return barred_machine(self._signs, self._look, mark)

    def _net(self, mark, turns):
        """The net of the lines before those that are seen as the mark, by these turns."""
        return chain_net(self._signs, form_of(seen_machine(self._signs, self._sight, mark)), turns)

    def is_safe(self, mark):
        """Whether the look is safe for the mark."""
        check_mark(self._signs, mark)
        return is_safe_look(self._net(mark, turns_of(self._relays)), self._look, mark)

    def first_unsafe(self, mark):
        """A tuple (line, steps) of the least line that becomes one seen as the mark and does not bar it; None."""
        check_mark(self._signs, mark)
        net = self._net(mark, turns_of(self._relays))
        line = first_unbarred(net, self._look, mark)
        if line is None:
            return None
        return line, told_steps(steps_of(net, line))

    def safe_sets(self, mark):
        """The sorted list of the largest sets of relays under which the look is safe."""
        check_mark(self._signs, mark)
        return largest_sets(len(self._relays), self._safe_under(mark))

    def unsafe_sets(self, mark):
        """The sorted list of the least sets of relays under which the look is not safe."""
        check_mark(self._signs, mark)
        return least_other_sets(len(self._relays), self._safe_under(mark))

    def _safe_under(self, mark):
        """A function that tells whether the look is safe under a set of relays."""
        turns = turns_of(self._relays)
        return lambda numbers: is_safe_look(self._net(mark, turns_within(turns, numbers)), self._look, mark)

    def lets(self, mark, body):
        """Whether the body lets the mark."""
        check_mark(self._signs, mark)
        check_body(self._signs, body)
        return self._is_let(mark, body)

    def _is_let(self, mark, body):
        """Whether no line of the body bars the mark."""
        if self._look == "any":
            net = self._net(mark, turns_of(self._relays))
            return all([steps_of(net, line) is None for line in body])
        return not any([is_barring(self._look, mark, line) for line in body])

    def choice(self, marks, body):
        """The first mark of the menu that the body lets; None."""
        check_marks(self._signs, marks, MOST_MARKS)
        check_body(self._signs, body)
        for mark in marks:
            if self._is_let(mark, body):
                return mark
        return None

    def sorts(self, marks):
        """The list of the tuples (sort, line) of all sorts that lines have, with the least line of each."""
        check_marks(self._signs, marks, MOST_MARKS)
        return sorts_of(self._groups(marks))

    def least_full_body(self, marks):
        """The least body that lets no mark of the menu; None."""
        check_marks(self._signs, marks, MOST_MARKS)
        return least_full_of(sorts_of(self._groups(marks)), len(marks))

    def count_let(self, marks, size):
        """How many lines of so many signs bar no mark of the menu."""
        check_marks(self._signs, marks, MOST_MARKS)
        check_count(size)
        if size > MOST_SIZE:
            raise TooMany("signs", MOST_SIZE)
        return count_let_of(self._groups(marks), size)

    def _groups(self, marks):
        """The groups of the menu; TooMany if there are more than may be."""
        if self._look != "any":
            return Groups(self._signs, [form_of(barred_machine(self._signs, self._look, mark)) for mark in marks])
        turns = turns_of(self._relays)
        return Groups(self._signs, [form_of_groups(self._net(mark, turns)) for mark in marks])

    def __eq__(self, other):
        return (
            isinstance(other, Writer)
            and self._relays == other._relays
            and self._sight == other._sight
            and self._look == other._look
        )

    def __repr__(self):
        return f"Writer({self._relays!r}, {self._sight!r}, {self._look!r})"


def form_of_groups(net):
    """The least form of what the net accepts; TooMany if it alone parts lines into more groups than there may be."""
    try:
        return least_of(net, MOST_GROUPS)
    except TooMany:
        raise TooMany("groups", MOST_GROUPS) from None


def first_unbarred(net, look, mark):
    """The least line that the net accepts and that does not bar the mark by the look; None."""
    if look == "any":
        # The lines that the net accepts are among those that bar by this look.
        return None
    return least_line_without(Graph(net), form_of(barred_machine(net.letters, look, mark)))


def is_safe_look(net, look, mark):
    """Whether each line that the net accepts bars the mark by the look."""
    return first_unbarred(net, look, mark) is None


def safe_looks(relays, mark, sight):
    """The list of the looks that are safe for the mark and the sight."""
    check_relays(relays)
    signs = relays[0].signs
    check_mark(signs, mark)
    check_sight(signs, sight)
    net = chain_net(signs, form_of(seen_machine(signs, sight, mark)), turns_of(relays))
    return [look for look in LOOKS if is_safe_look(net, look, mark)]
