"""Relays, which turn lines by rules on their fronts [21]."""

from frontlines.checks import check_count, check_line, check_rules, check_same_signs, check_signs
from frontlines.errors import TooMany
from frontlines.joins import joined_lines_of, leaves_as_it_was, parting_line_of
from frontlines.lines import line_order
from frontlines.tables import (
    changing_cells,
    limited_table,
    product_table,
    rule_index,
    table_of,
    turned_once,
    uneven_of,
)

MOST_RULES = 400
MOST_TIMES = 60


class Relay:
    """A relay with signs and rules; the first rule that fits a line turns it."""

    def __init__(self, signs, rules):
        check_signs(signs)
        check_rules(signs, rules)
        if len(rules) > MOST_RULES:
            raise TooMany("rules", MOST_RULES)
        self._signs = signs
        self._rules = [(kind, old, new) for kind, old, new in rules]
        self._index = rule_index(rules)

    @property
    def signs(self):
        """The signs."""
        return self._signs

    def rules(self):
        """The list of the rules."""
        return list(self._rules)

    def __call__(self, line):
        check_line(self._signs, line)
        return turned_once(self._index, line)

    def table(self):
        """The list of all cells [22]."""
        return limited_table(self._signs, self._index)

    def __mul__(self, other):
        check_same_signs(self._signs, other._signs)
        cells = product_table(self._signs, self._index, other._index)
        return Relay(self._signs, changing_cells(cells))

    def power(self, times):
        """This relay so many times, one after another."""
        check_count(times)
        if times > MOST_TIMES:
            raise TooMany("times", MOST_TIMES)
        found = Relay(self._signs, [])
        for _ in range(times):
            found = found * self
        return found

    def is_alike(self, other):
        """Whether both turn each line alike."""
        check_same_signs(self._signs, other._signs)
        return table_of(self._signs, self._index) == table_of(self._signs, other._index)

    def parting_line(self, other):
        """The least line that both turn otherwise; None if there is none."""
        check_same_signs(self._signs, other._signs)
        return parting_line_of(self._signs, self._index, other._index)

    def joined_lines(self):
        """Two lines in order that are turned to the same one, with the least second, then first; None."""
        return joined_lines_of(table_of(self._signs, self._index))

    def undoing(self):
        """The Relay that undoes this one [23]; None if there is none."""
        cells = limited_table(self._signs, self._index)
        changing = changing_cells(cells)
        if joined_lines_of(cells) is not None:
            return None
        rules = [(kind, new, old) for kind, old, new in changing]
        return Relay(self._signs, sorted(rules, key=lambda rule: line_order(rule[1])))

    def undoes(self, other):
        """Whether the other relay and then this one leave each line as it was."""
        check_same_signs(self._signs, other._signs)
        cells = table_of(self._signs, other._index)
        return leaves_as_it_was(cells, self._index, uneven_of(self._signs, self._index))

    def __eq__(self, other):
        return isinstance(other, Relay) and self._signs == other._signs and self._rules == other._rules

    def __repr__(self):
        return f"Relay({self._signs!r}, {self._rules!r})"
