"""Spreads of nets, and the least line that a net accepts and a form, or another net, does not.

A SPREAD is the sorted tuple of the nodes of a net to which a line leads, as far as DONE can be reached from there.
"""

from heapq import heappop, heappush

from frontlines.forms import least_form
from frontlines.listing import line_behind, mask_of
from frontlines.nets import DONE, END


class Graph:
    """A net without its costs: for each node a dict from signs to the nodes behind it, and the first spread.

    Jumps are included, and nodes from which DONE is not reached are left out.
    """

    def __init__(self, net):
        reached = [[node, *jumps] for node, jumps in enumerate(net.jumps)]
        moves = [{sign: reached[target] for sign, target in way.items()} for way in net.ways]
        live = live_nodes(moves)
        kept = [[node for node in nodes if node in live] for nodes in reached]
        self.letters = net.letters
        self.moves = [{sign: kept[target] for sign, target in way.items()} for way in net.ways]
        self.first = tuple(sorted(kept[net.root]))


def live_nodes(moves):
    """A dict of the nodes from which DONE is reached."""
    backs = [[] for _ in moves]
    for node, move in enumerate(moves):
        for nodes in move.values():
            for target in nodes:
                backs[target].append(node)
    live = {DONE: True}
    todo = [DONE]
    while todo:
        target = todo.pop()
        for node in backs[target]:
            if node not in live:
                live[node] = True
                todo.append(node)
    return live


def is_last(graph, node):
    """Whether a line may end at the node."""
    return DONE in graph.moves[node].get(END, [])


def has_last(graph, spread):
    """Whether a line with this spread is accepted."""
    return any([is_last(graph, node) for node in spread])


def spread_behind(graph, spread, sign):
    """The spread to which a spread leads by a sign."""
    found = {target: True for node in spread for target in graph.moves[node].get(sign, [])}
    return tuple(sorted(list(found)))


class Spreads:
    """The spreads of all lines, and what comes behind them, small ones first."""

    def __init__(self, graph):
        self.graph = graph
        self.known = [graph.first]
        self.places = {graph.first: 0}
        self.behind = {}
        self.queue = [(len(graph.first), 0)]

    def go_on(self, work):
        """Goes through more spreads, until they have so many nodes together or none is left."""
        left = work
        while self.queue and left > 0:
            size, number = heappop(self.queue)
            spread = self.known[number]
            found = [spread_behind(self.graph, spread, sign) for sign in self.graph.letters]
            self.behind[number] = tuple([self.place_of(each) for each in found])
            left = left - size - 1

    def place_of(self, spread):
        """The number of a spread, a new one if it was not known."""
        if spread not in self.places:
            self.places[spread] = len(self.known)
            heappush(self.queue, (len(spread), len(self.known)))
            self.known.append(spread)
        return self.places[spread]

    def least(self, most):
        """The least form, if all spreads were gone through; TooMany if it has more states than most."""
        ends = [place for place, spread in enumerate(self.known) if has_last(self.graph, spread)]
        return least_form([self.behind[place] for place in range(len(self.known))], ends, most)


def least_line_without(graph, form):
    """The least line that the net accepts and the form does not; None.

    Pairs of a node and a state are met in groups, each by the least line that leads to it; so the groups are in order.
    """
    rows, ends = form
    is_end = {end: True for end in ends}
    groups = [[(node, 0) for node in graph.first]]
    met = {pair: True for pair in groups[0]}
    origins = [(0, 0, "")]
    at = 0
    while at < len(groups):
        here = groups[at]
        if any([is_last(graph, node) and state not in is_end for node, state in here]):
            return line_behind(origins, at)
        for place, sign in enumerate(graph.letters):
            pairs = [(target, rows[state][place]) for node, state in here for target in graph.moves[node].get(sign, [])]
            new = {pair: True for pair in pairs if pair not in met}
            if new:
                met.update(new)
                groups.append(list(new))
                origins.append((0, at, sign))
        at = at + 1
    return None


def add_least(kept, state, mask):
    """Adds a mask to those of the state, if it contains none of them, and leaves out those that contain it."""
    masks = kept.get(state, [])
    if any([other & ~mask == 0 for other in masks]):
        return False
    kept[state] = [other for other in masks if mask & ~other != 0] + [mask]
    return True


def takes_all(graph, node):
    """Whether each sign leads from the node to itself, and a line may end there."""
    return is_last(graph, node) and all([node in graph.moves[node].get(sign, []) for sign in graph.letters])


def least_line_outside(graph, other):
    """The least line that the net of the graph accepts and that of the other graph does not; None.

    A group is the nodes that go on with a line, and its spread in the other graph; so the groups are in order. A node
    does not go on beside a spread that contains one beside which it was met: the line that met it there is less, and
    what goes on from here would go on behind that line as well.
    """
    full = mask_of([node for node in range(len(other.moves)) if takes_all(other, node)])
    kept = {}
    groups = [(graph.first, other.first)]
    origins = [(0, 0, "")]
    at = 0
    while at < len(groups):
        nodes, spread = groups[at]
        if has_last(graph, nodes) and not has_last(other, spread):
            return line_behind(origins, at)
        for sign in graph.letters:
            behind = spread_behind(other, spread, sign)
            mask = mask_of(behind)
            new = [node for node in spread_behind(graph, nodes, sign) if add_least(kept, node, mask)]
            if new and mask & full == 0:
                groups.append((new, behind))
                origins.append((0, at, sign))
        at = at + 1
    return None
