"""What some chain of relays makes of lines: the lines before and after a machine, steps, chains and barriers [31]."""

from frontlines.checks import check_chain, check_line, check_same_signs, is_chain_for
from frontlines.errors import TooMany
from frontlines.guesses import least_of
from frontlines.machines import Machine, machine_of
from frontlines.nets import chain_net, chain_of, single_net, steps_of
from frontlines.spreads import Graph, least_line_without
from frontlines.turns import check_relays, check_relays_with, turned_back, turns_of, turns_of_one

MOST_STEPS = 1000000000000000000000000000000
MOST_CHAIN = 200


def form_of(machine):
    """The least form of a machine."""
    return machine.rows(), machine.ends()


def machine_of_net(net):
    """The Machine of what the net accepts."""
    return machine_of(net.letters, least_of(net, Machine.MOST_STATES))


def before_one(relay, machine):
    """The Machine of the lines that the relay turns into ones that the machine accepts."""
    check_same_signs(relay.signs, machine.signs)
    return machine_of_net(single_net(relay.signs, form_of(machine), turns_of_one(relay, 0)))


def after_one(relay, machine):
    """The Machine of what the relay makes of the lines that the machine accepts."""
    check_same_signs(relay.signs, machine.signs)
    return machine_of_net(single_net(relay.signs, form_of(machine), turned_back(turns_of_one(relay, 0))))


def net_before(relays, machine):
    """The net of the lines before the machine."""
    return chain_net(machine.signs, form_of(machine), turns_of(relays))


def before(relays, machine):
    """The Machine of the lines that some chain turns into ones that the machine accepts."""
    check_relays_with(relays, machine)
    return machine_of_net(net_before(relays, machine))


def after(relays, machine):
    """The Machine of what some chain makes of the lines that the machine accepts."""
    check_relays_with(relays, machine)
    return machine_of_net(chain_net(machine.signs, form_of(machine), turned_back(turns_of(relays))))


def check_handed(relays, line, machine):
    """The errors of relays, a line and a machine that are handed in together."""
    check_relays(relays)
    check_line(relays[0].signs, line)
    check_same_signs(relays[0].signs, machine.signs)


def told_steps(number):
    """The number of steps, or None; TooMany if it is too large to be told."""
    if number is not None and number > MOST_STEPS:
        raise TooMany("steps", MOST_STEPS)
    return number


def steps(relays, line, machine):
    """The steps of the line to the machine; None if it is not before it."""
    check_handed(relays, line, machine)
    return told_steps(steps_of(net_before(relays, machine), line))


def chain_to(relays, line, machine):
    """A shortest chain that turns the line into one that the machine accepts; None."""
    check_handed(relays, line, machine)
    return limited_chain(net_before(relays, machine), line)


def limited_chain(net, line):
    """A shortest chain of the turns that the net was made of; None; TooMany if it has more steps than may be told."""
    number = steps_of(net, line)
    if number is None:
        return None
    if number > MOST_CHAIN:
        raise TooMany("steps", MOST_CHAIN)
    return chain_of(net, line)


def check_course(relays, line, chain):
    """The errors of relays, a line and a chain that are handed in together."""
    check_relays(relays)
    check_line(relays[0].signs, line)
    check_chain(len(relays), chain)


def turned(relays, line, chain):
    """The line that comes of the line by the chain."""
    check_course(relays, line, chain)
    return line_turned(relays, line, chain)


def line_turned(relays, line, chain):
    """The line that comes of it, nothing being checked but the line."""
    found = line
    for number in chain:
        relay = relays[number]
        found = relay(found)
    return found


def walked(relays, line, chain):
    """The line, and what comes of it behind each relay of the chain, one after another."""
    check_course(relays, line, chain)
    found = line
    yield found
    for number in chain:
        relay = relays[number]
        found = relay(found)
        yield found


def is_chain(relays, line, machine, value):
    """Whether the value is a chain that turns the line into one that the machine accepts."""
    check_handed(relays, line, machine)
    return is_chain_for(len(relays), value) and line_turned(relays, line, value) in machine


def is_closed(relays, machine):
    """Whether the machine accepts each line that one of the relays turns into one that it accepts."""
    check_relays_with(relays, machine)
    form = form_of(machine)
    return least_line_without(Graph(single_net(machine.signs, form, turns_of(relays))), form) is None


def is_barrier(relays, line, machine, value):
    """Whether the value is a Machine that shows that the line is not before the machine."""
    check_handed(relays, line, machine)
    if not isinstance(value, Machine) or value.signs != machine.signs:
        return False
    return line not in value and machine.is_within(value) and is_closed(relays, value)
