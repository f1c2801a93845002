"""Nets: the lines that some chain of relays turns into given ones [32], and how many turns that takes.

A TURN writes a front of a line otherwise. END stands behind a whole line, so that what a cell of the kind "whole" does
is a turn, too: from its line and END to the new line and END. A turn is a tuple (old, new, number of its relay).

A net has nodes: DONE, one for each state of a form that leads to an end, and a tree of the old fronts with a root.
A WAY leads from a node to another one by a sign. A JUMP leads there without a sign; its cost is a number of turns.
A line with END behind it that leads from the root to DONE is accepted; the least sum of costs is the line's steps.
A WORD is the number of a beginning of a new front, 0 that of the empty one.
"""

from heapq import heappop, heappush

from frontlines.listing import is_dead

END = "_"
DONE = 0


class Net:
    """Ways and jumps of all nodes; what each jump was made by, and how each word came to lead to a node."""

    def __init__(self, letters, ways, root):
        self.letters = letters
        self.ways = ways
        self.root = root
        self.jumps = [{} for _ in ways]
        # From (node, node) of a jump to (number of the relay, word of the new front).
        self.made = {}
        # From (word, node) to the (word, node) before it: by a jump if the word is the same, otherwise by a way.
        self.came = {}


def state_ways(signs, form):
    """The ways of DONE and of the states of a least form, and the node of its state 0; None if that is dead."""
    rows, ends = form
    live = [state for state in range(len(rows)) if not is_dead(rows, ends, state)]
    nodes = {state: place + 1 for place, state in enumerate(live)}
    ways = [{}]
    for state in live:
        ways.append({sign: nodes[target] for sign, target in zip(signs, rows[state]) if target in nodes})
    for state in ends:
        ways[nodes[state]][END] = DONE
    return ways, nodes.get(0)


def led(ways, start, line):
    """The node to which the line leads; what lacks on the way is put behind the others."""
    node = start
    for sign in line:
        if sign not in ways[node]:
            ways[node][sign] = len(ways)
            ways.append({})
        node = ways[node][sign]
    return node


def led_at_all(ways, start, line):
    """The node to which the line leads; None if there is none."""
    node = start
    for sign in line:
        if node is not None:
            node = ways[node].get(sign)
    return node


def single_net(signs, form, turns):
    """The net of the lines that just one turn makes one that the least form accepts."""
    ways, first = state_ways(signs, form)
    root = len(ways)
    ways.append({})
    pairs = []
    for old, new, _ in turns:
        target = led_at_all(ways, first, new)
        if target is not None:
            pairs.append((led(ways, root, old), target))
    net = Net(signs, ways, root)
    for node, target in pairs:
        net.jumps[node][target] = 1
    return net


def chain_net(signs, form, turns):
    """The net of the lines that any number of turns makes ones that the least form accepts."""
    ways, first = state_ways(signs, form)
    root = len(ways)
    ways.append({})
    words, olds = turn_ends(ways, root, turns)
    net = Net(signs, ways, root)
    if first is not None:
        net.jumps[root][first] = 0
        add_jumps(net, words, olds, {})
    return net


def turn_ends(ways, root, turns):
    """The words of the turns, and a dict from a word to the tuples (node of the old front, number of the relay)."""
    words = [{}]
    olds = {}
    for old, new, number in turns:
        olds.setdefault(led(words, 0, new), []).append((led(ways, root, old), number))
    return words, olds


def add_jumps(net, words, olds, cuts):
    """Makes the jumps: where the root leads by a new front, there leads a jump from the old front, for a turn more.

    Where it leads to DONE by a word of cuts, there a jump is made from the first to the second node of each of its
    tuples. What costs fewer turns is found first, so that a jump has its least cost when it is made.
    """
    queue = [(0, 0, net.root, -1, net.root)]
    # For each node the (cost, word) of the words that led to it by a way so far; they use its later jumps, too.
    seen = [[] for _ in net.ways]
    while queue:
        cost, word, node, word_before, node_before = heappop(queue)
        if (word, node) not in net.came:
            net.came[(word, node)] = (word_before, node_before)
            for sign, behind in list(words[word].items()):
                if sign in net.ways[node]:
                    heappush(queue, (cost, behind, net.ways[node][sign], word, node))
            # Behind a jump there is no need of another one: a jump over both is made as well.
            if word_before != word:
                seen[node].append((cost, word))
                push_jumps(net, queue, cost, word, node)
            for old, target, number in jumps_by(olds, cuts, word, node):
                if is_new_jump(net, old, target):
                    net.jumps[old][target] = cost + 1
                    net.made[(old, target)] = (number, word)
                    for told, reader in seen[old]:
                        if (reader, target) not in net.came:
                            heappush(queue, (told + cost + 1, reader, target, reader, old))


def jumps_by(olds, cuts, word, node):
    """The tuples (node, target, number) of the jumps to be made when the root leads by the word to the node."""
    found = [(old, node, number) for old, number in olds.get(word, [])]
    if node == DONE:
        found.extend([(old, target, -1) for old, target in cuts.get(word, [])])
    return found


def push_jumps(net, queue, cost, word, node):
    """Puts into the queue where the word leads by the jumps of a node to which it led."""
    for target, more in net.jumps[node].items():
        if (word, target) not in net.came:
            heappush(queue, (cost + more, word, target, word, node))


def is_new_jump(net, old, node):
    """Whether the jump is not there yet, and leads where a line can go on."""
    # A node without ways only has jumps, which the words that lead to it use as well: so nothing is lost.
    return node != old and node not in net.jumps[old] and (node == DONE or len(net.ways[node]) > 0)


def first_layer(net):
    """The layer of the empty line.

    A layer is a dict of the nodes to which a line leads; each has the tuple (least cost, the node before the last sign,
    the node to which this sign leads from there).
    """
    layer = {net.root: (0, net.root, net.root)}
    for node, more in net.jumps[net.root].items():
        layer[node] = (more, net.root, net.root)
    return layer


def next_layer(net, layer, sign):
    """The layer that comes of one by the sign."""
    found = {}
    for node, (cost, _, _) in layer.items():
        behind = net.ways[node].get(sign)
        if behind is not None:
            reached = [(behind, cost)] + [(target, cost + more) for target, more in net.jumps[behind].items()]
            for target, total in reached:
                if target not in found or found[target][0] > total:
                    found[target] = (total, node, behind)
    return found


def steps_of(net, line):
    """The steps of the line; None if it is not accepted."""
    layer = first_layer(net)
    for sign in line + END:
        layer = next_layer(net, layer, sign)
    return layer[DONE][0] if DONE in layer else None


def chain_of(net, line):
    """The numbers of the relays of a shortest chain for a line that is accepted."""
    layers = [first_layer(net)]
    for sign in line + END:
        layers.append(next_layer(net, layers[-1], sign))
    todo = []
    node = DONE
    for layer in layers[::-1]:
        _, before, behind = layer[node]
        if behind != node:
            todo.append((behind, node))
        node = before
    chain = []
    # The jump that is to be made first is always the last one of todo.
    while todo:
        jump = todo.pop()
        if jump in net.made:
            number, word = net.made[jump]
            chain.append(number)
            todo.extend(jumps_back(net, word, jump[1]))
    return chain


def jumps_back(net, word, node):
    """The jumps on the way by which the word leads to the node, the last one first."""
    found = []
    at = (word, node)
    while at != (0, net.root):
        before = net.came[at]
        if before[0] == at[0]:
            found.append((before[1], at[1]))
        at = before
    return found
