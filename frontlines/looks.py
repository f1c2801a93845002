"""How a line is seen as a mark, and which lines bar a mark [41]; a mark may be a line of any length here.

What bars by the look "any" hangs on relays, and is not told here.
"""

from frontlines.machines import Machine


def seen_machine(signs, sight, mark):
    """The Machine of the lines that are seen as the mark."""
    if sight == "whole":
        return Machine.of_lines(signs, [mark])
    if sight == "start":
        return Machine.beginning(signs, mark)
    return Machine.tailed(signs, mark, sight)


def is_seen(sight, mark, line):
    """Whether the line is seen as the mark."""
    if sight == "whole" or not line.startswith(mark):
        return line == mark
    return sight == "start" or line[len(mark):].strip(sight) == ""


def barred_machine(signs, look, mark):
    """The Machine of the lines that bar the mark."""
    if look == "none":
        return Machine.nothing(signs)
    if look == "whole":
        return Machine.of_lines(signs, [mark])
    if look == "start":
        return Machine.beginning(signs, mark)
    return Machine.having(signs, mark)


def is_barring(look, mark, line):
    """Whether the line bars the mark."""
    if look == "none":
        return False
    if look == "whole":
        return line == mark
    if look == "start":
        return line.startswith(mark)
    return mark in line
