"""Schemes: a reader, the relays ahead of it, and the look of the writer [53]."""

from frontlines.chains import machine_of_net, told_steps
from frontlines.checks import check_line, check_look, check_role, check_same_signs
from frontlines.faults import (
    all_faults_of,
    are_let_by,
    barred_somewhere,
    body_fault,
    first_fault_of,
    role_fault,
    seen_net,
)
from frontlines.nets import steps_of
from frontlines.relaysets import largest_sets
from frontlines.turns import check_relays, turns_of, turns_within


class Scheme:
    """A reader, relays and a look; it is sound if each part is read as it was written."""

    def __init__(self, reader, relays, look):
        check_relays(relays)
        check_look(look)
        check_same_signs(reader.signs, relays[0].signs)
        self._reader = reader
        self._relays = list(relays)
        self._look = look

    @property
    def reader(self):
        """The reader."""
        return self._reader

    @property
    def look(self):
        """Which lines bar a mark."""
        return self._look

    @property
    def signs(self):
        """The signs of the reader and the relays."""
        return self._reader.signs

    def relays(self):
        """The list of the relays."""
        return list(self._relays)

    def barred(self):
        """The Machine of the lines that the look bars."""
        if self._look == "any":
            return machine_of_net(seen_net(self._reader, turns_of(self._relays)))
        return barred_somewhere(self._reader, self._look)

    def lets(self, line):
        """Whether the line bars the line of no role."""
        check_line(self._reader.signs, line)
        return are_let_by(self._reader, self._relays, self._look, [line])

    def is_kept(self, role):
        """Whether whatever some chain makes of the role's line is taken for the role."""
        check_role(self._reader.depth, role)
        return role_fault(self._reader, turns_of(self._relays), role) is None

    def is_clear(self):
        """Whether no chain turns a let line into one that is taken while all levels are open."""
        return body_fault(self._reader, turns_of(self._relays), self._look) is None

    def is_sound(self):
        """Whether all roles are kept and the scheme is clear."""
        return first_fault_of(self._reader, turns_of(self._relays), self._look) is None

    def faults(self):
        """The list of all faults, in the sequence of the roles, that of the body last."""
        return [fault_told(fault) for fault in all_faults_of(self._reader, turns_of(self._relays), self._look)]

    def first_fault(self):
        """The first fault; None."""
        fault = first_fault_of(self._reader, turns_of(self._relays), self._look)
        return None if fault is None else fault_told(fault)

    def sound_sets(self):
        """The sorted list of the largest sets of relays under which the scheme is sound."""
        turns = turns_of(self._relays)
        reader, look = self._reader, self._look
        return largest_sets(
            len(self._relays), lambda numbers: first_fault_of(reader, turns_within(turns, numbers), look) is None
        )

    def __eq__(self, other):
        return (
            isinstance(other, Scheme)
            and self._reader == other._reader
            and self._relays == other._relays
            and self._look == other._look
        )

    def __repr__(self):
        return f"Scheme({self._reader!r}, {self._relays!r}, {self._look!r})"


def fault_told(fault):
    """A fault with its steps in the place of the net; TooMany if they are too many to be told."""
    word, line, net = fault
    return word, line, told_steps(steps_of(net, line))
