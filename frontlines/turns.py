"""Lists of relays, as they are handed in, and the turns that they make, as a net takes them."""

from frontlines.checks import check_same_signs
from frontlines.errors import InvalidRelays
from frontlines.lines import is_list
from frontlines.nets import END
from frontlines.relays import Relay
from frontlines.tables import rule_index, table_of

MOST_RELAYS = 5


def check_relays(relays):
    """InvalidRelays unless a list of 1 to 5 relays with the same signs."""
    if not is_list(relays) or len(relays) == 0 or len(relays) > MOST_RELAYS:
        raise InvalidRelays(None)
    for position, relay in enumerate(relays):
        if not isinstance(relay, Relay) or relay.signs != relays[0].signs:
            raise InvalidRelays(position)


def check_relays_with(relays, machine):
    """InvalidRelays unless a list of relays, OtherSigns unless the machine has their signs."""
    check_relays(relays)
    check_same_signs(relays[0].signs, machine.signs)


def turns_of_one(relay, number):
    """The turns that a relay with this number makes, a turn for each cell, whether its line changes or not."""
    cells = table_of(relay.signs, rule_index(relay.rules()))
    ends = {"front": "", "whole": END}
    return [(old + ends[kind], new + ends[kind], number) for kind, old, new in cells]


def turns_of(relays):
    """The turns of the relays that change their lines."""
    found = []
    for number, relay in enumerate(relays):
        found.extend([turn for turn in turns_of_one(relay, number) if turn[0] != turn[1]])
    return found


def turned_back(turns):
    """The turns that lead back."""
    return [(new, old, number) for old, new, number in turns]


def turns_within(turns, numbers):
    """Those turns whose relays have these numbers."""
    return [turn for turn in turns if turn[2] in numbers]
