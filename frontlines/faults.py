"""Faults of schemes [54], and what they are looked for with; which relays turn lines is told by their turns."""

from frontlines.chains import form_of
from frontlines.looks import barred_machine, is_barring
from frontlines.machines import Machine
from frontlines.nets import chain_net, steps_of
from frontlines.spreads import Graph, least_line_outside, least_line_without
from frontlines.turns import turns_of


def seen_somewhere(reader):
    """The Machine of the lines that are taken for any role while all levels are open."""
    found = Machine.nothing(reader.signs)
    for role in reader.roles():
        found = found | reader.sees(role)
    return found


def barred_somewhere(reader, look):
    """The Machine of the lines that bar the line of any role, by a look other than "any"."""
    found = Machine.nothing(reader.signs)
    for role in reader.roles():
        found = found | barred_machine(reader.signs, look, reader.line_of(role))
    return found


def is_let_by(reader, look, line):
    """Whether the line bars the line of no role, by a look other than "any"."""
    return not any([is_barring(look, reader.line_of(role), line) for role in reader.roles()])


def seen_net(reader, turns):
    """The net of the lines that the turns make ones that are taken for any role while all levels are open."""
    return chain_net(reader.signs, form_of(seen_somewhere(reader)), turns)


def least_let_line(reader, turns, look, net):
    """The least line that the net accepts and that is let, these being the turns of all relays; None."""
    if look == "any":
        return least_line_outside(Graph(net), Graph(seen_net(reader, turns)))
    return least_line_without(Graph(net), form_of(barred_somewhere(reader, look)))


def are_let_by(reader, relays, look, lines):
    """Whether all lines are let, these being all relays."""
    if look == "any":
        net = seen_net(reader, turns_of(relays))
        return all([steps_of(net, line) is None for line in lines])
    return all([is_let_by(reader, look, line) for line in lines])


def role_fault(reader, turns, role):
    """A tuple (role, its line, the net of the lines that become ones not taken for it); None if the role is kept."""
    net = chain_net(reader.signs, form_of(-reader.taken(role, role[1])), turns)
    line = reader.line_of(role)
    return None if steps_of(net, line) is None else (role, line, net)


def body_fault(reader, turns, look):
    """A tuple ("body", the least let line that becomes one that is taken, the net of such); None if it is clear."""
    if look == "any":
        # What becomes a taken line by any chain of all relays bars by this look.
        return None
    net = seen_net(reader, turns)
    line = least_let_line(reader, turns, look, net)
    return None if line is None else ("body", line, net)


def first_fault_of(reader, turns, look):
    """The first of the tuples of the roles, in their sequence, and of the body; None if there is none."""
    for role in reader.roles():
        fault = role_fault(reader, turns, role)
        if fault is not None:
            return fault
    return body_fault(reader, turns, look)


def all_faults_of(reader, turns, look):
    """The list of the tuples of the roles and of the body."""
    found = [role_fault(reader, turns, role) for role in reader.roles()]
    return [fault for fault in found + [body_fault(reader, turns, look)] if fault is not None]
