"""Faults of schemes [54], and what they are looked for with; which relays turn lines is told by their turns."""

from frontlines.chains import form_of
from frontlines.looks import barred_machine, is_barring
from frontlines.machines import Machine
from frontlines.nets import chain_net, steps_of
from frontlines.spreads import Graph, least_line_without


def seen_somewhere(reader):
    """The Machine of the lines that are taken for any role while all levels are open."""
    found = Machine.nothing(reader.signs)
    for role in reader.roles():
        found = found | reader.sees(role)
    return found


def barred_somewhere(reader, look):
    """The Machine of the lines that bar the line of any role, by a look other than "any"."""
    found = Machine.nothing(reader.signs)
    for role in reader.roles():
        found = found | barred_machine(reader.signs, look, reader.line_of(role))
    return found


def is_let_by(reader, look, line):
    """Whether the line bars the line of no role, by a look other than "any"."""
    return not any([is_barring(look, reader.line_of(role), line) for role in reader.roles()])


def seen_net(reader, turns):
    """The net of the lines that the turns make ones that are taken for any role while all levels are open."""
    return chain_net(reader.signs, form_of(seen_somewhere(reader)), turns)


def role_steps(reader, turns, role):
    """The steps of the role's line to those that are not taken for it; None if the role is kept."""
    missed = -reader.taken(role, role[1])
    return steps_of(chain_net(reader.signs, form_of(missed), turns), reader.line_of(role))


def body_fault(reader, turns, look):
    """A tuple (line, steps) of the least let line that becomes one that is taken; None if the scheme is clear."""
    if look == "any":
        # What becomes a taken line by any chain of all relays bars by this look.
        return None
    net = seen_net(reader, turns)
    line = least_line_without(Graph(net), form_of(barred_somewhere(reader, look)))
    if line is None:
        return None
    return line, steps_of(net, line)


def is_sound_by(reader, turns, look):
    """Whether all roles are kept and the scheme is clear, by these turns."""
    for role in reader.roles():
        if role_steps(reader, turns, role) is not None:
            return False
    return body_fault(reader, turns, look) is None
