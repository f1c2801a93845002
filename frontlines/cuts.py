"""Breaking [71], and the net of the lines that come in by turns and breaking."""

from frontlines.nets import DONE, END, Net, add_jumps, led, state_ways, turn_ends


def pieces_of(line, width):
    """The list of the pieces of the line."""
    if len(line) <= width:
        return [line]
    return [line[at:at + width] for at in range(0, len(line), width)]


def short_lines(signs, width):
    """The lines of one sign up to as many as the width."""
    found = []
    longest = [""]
    for _ in range(width):
        longest = [line + sign for line in longest for sign in signs]
        found.extend(longest)
    return found


def coming_net(signs, form, turns, width):
    """The net of the lines that come in, by these turns and breaking, to the lines that the least form accepts.

    Its least costs are numbers of turns and pieces taken.
    """
    ways, first = state_ways(signs, form)
    root = len(ways)
    ways.append({})
    words, olds = turn_ends(ways, root, turns)
    cuts, later, fulls = add_cuts(ways, root, words, signs, width)
    net = Net(signs, ways, root)
    if first is not None:
        net.jumps[root][first] = 0
        for node in fulls:
            net.jumps[node][later] = 0
        add_jumps(net, words, olds, cuts)
    return net


def add_cuts(ways, root, words, signs, width):
    """Puts in the nodes by which a line is broken: a tuple (cuts, later, fulls).

    The cuts are those of add_jumps: where the root leads to DONE by a piece and END, the piece comes in, so that lines
    with this piece do. LATER is the node behind each piece of full width, which lines lead to from the FULLS.
    """
    later = len(ways)
    every = later + 1
    ways.append({})
    ways.append({sign: every for sign in signs})
    ways[every][END] = DONE
    cuts = {}
    fulls = []
    for piece in short_lines(signs, width):
        word = led(words, 0, piece + END)
        if len(piece) < width:
            cuts[word] = [(led(ways, later, piece + END), DONE)]
        else:
            # A line that is just the piece is not broken, but comes in as well.
            nodes = [led(ways, root, piece), led(ways, later, piece)]
            cuts[word] = [(node, every) for node in nodes]
            fulls.extend(nodes)
    return cuts, later, fulls
