"""What breaking long lines makes of lines, and told numbers of lines [71], [73]."""

from frontlines.chains import form_of, machine_of_net, told_steps
from frontlines.checks import check_line, check_same_signs, check_signs, check_width, is_place
from frontlines.cuts import coming_net, pieces_of
from frontlines.faults import least_let_line, seen_somewhere
from frontlines.lines import is_count, is_list
from frontlines.machines import Machine
from frontlines.nets import chain_net, steps_of
from frontlines.turns import check_relays, turns_of


def pieces(signs, line, width):
    """The list of the pieces of the line."""
    check_signs(signs)
    check_line(signs, line)
    check_width(width)
    return pieces_of(line, width)


def coming(relays, width, machine):
    """The Machine of the lines that come in to the machine."""
    check_relays(relays)
    check_width(width)
    check_same_signs(relays[0].signs, machine.signs)
    return machine_of_net(coming_net(machine.signs, form_of(machine), turns_of(relays), width))


def first_coming(scheme, width):
    """The least let line that comes in to the lines that are taken for some role while all levels are open; None."""
    check_width(width)
    turns = turns_of(scheme.relays())
    net = coming_net(scheme.signs, form_of(seen_somewhere(scheme.reader)), turns, width)
    return least_let_line(scheme.reader, turns, scheme.look, net)


def longer_let(scheme, width):
    """A tuple (line, net) of the least let line that some chain makes longer, and the net of such; None."""
    turns = turns_of(scheme.relays())
    net = chain_net(scheme.signs, form_of(Machine.longer(scheme.signs, width)), turns)
    line = least_let_line(scheme.reader, turns, scheme.look, net)
    return None if line is None else (line, net)


def are_numbers_right(scheme, width):
    """Whether told numbers of a body's lines are right."""
    check_width(width)
    return longer_let(scheme, width) is None


def first_longer(scheme, width):
    """A tuple (line, steps) of the least let line that some chain makes longer than the width; None."""
    check_width(width)
    found = longer_let(scheme, width)
    if found is None:
        return None
    line, net = found
    return line, told_steps(steps_of(net, line))


def is_coming_way(relays, width, line, machine, value):
    """Whether the value is a list of relays and pieces by which the line ends as one that the machine accepts."""
    check_relays(relays)
    check_width(width)
    check_line(relays[0].signs, line)
    check_same_signs(relays[0].signs, machine.signs)
    if not is_list(value):
        return False
    found = line
    for step in value:
        found = line_behind_step(relays, width, found, step)
        if found is None:
            return False
    return found in machine


def line_behind_step(relays, width, line, step):
    """The line turned by the relay of this number, or its piece; None if the step is neither."""
    if is_place(step, len(relays)):
        relay = relays[step]
        return relay(line)
    if not is_piece(step):
        return None
    found = pieces_of(line, width)
    return found[step[1]] if step[1] < len(found) else None


def is_piece(value):
    """Whether the value is a tuple ("piece", k)."""
    if not isinstance(value, tuple) or len(value) != 2:
        return False
    return isinstance(value[0], str) and value[0] == "piece" and is_count(value[1])
