"""The least form of what a net accepts.

There may be far more spreads than states. So what is found of them is held against columns: a COLUMN is the sorted
tuple of the nodes that some line leads to DONE, and the TALE of a spread tells which columns it meets. Spreads with
unlike tales do not accept the same lines behind them; those with the same tale are guessed to do so.
"""

from heapq import heappop, heappush

from frontlines.errors import TooMany
from frontlines.listing import is_dead, line_behind, mask_of
from frontlines.spreads import Graph, Spreads, add_least, has_last, is_last, least_line_without, spread_behind

FIRST_WORK = 2000


class Columns:
    """The columns of lines, small ones first; bit k of told[node] is set if the node is in the column k."""

    def __init__(self, graph):
        self.letters = graph.letters
        self.backs = [{sign: [] for sign in graph.letters} for _ in graph.moves]
        for node, move in enumerate(graph.moves):
            for sign in graph.letters:
                for target in move.get(sign, []):
                    self.backs[target][sign].append(node)
        self.told = [0 for _ in graph.moves]
        self.last = tuple([node for node in range(len(graph.moves)) if is_last(graph, node)])
        self.places = {}
        self.queue = []
        self.put(self.last)

    def put(self, column):
        """Puts a column behind the others, if it was not known and has a node."""
        if len(column) > 0 and column not in self.places:
            place = len(self.places)
            self.places[column] = place
            heappush(self.queue, (len(column), column))
            for node in column:
                self.told[node] = self.told[node] | (1 << place)

    def ahead(self, column, sign):
        """The column of a line with the sign ahead of it."""
        return tuple(sorted(list({node: True for target in column for node in self.backs[target][sign]})))

    def go_on(self, work):
        """Goes through more columns, until they have so many nodes together or none is left."""
        left = work
        while self.queue and left > 0:
            size, column = heappop(self.queue)
            for sign in self.letters:
                self.put(self.ahead(column, sign))
            left = left - size

    def put_ends_of(self, line):
        """Puts the columns of all ends of the line."""
        column = self.last
        for sign in line[::-1]:
            column = self.ahead(column, sign)
            self.put(column)

    def tale(self, spread):
        """The number whose bits are set at the columns that the spread meets."""
        found = 0
        for node in spread:
            found = found | self.told[node]
        return found


def least_of(net, most):
    """The least form of what the net accepts; TooMany if it has more states than most."""
    graph = Graph(net)
    spreads = Spreads(graph)
    columns = Columns(graph)
    work = FIRST_WORK
    spreads.go_on(work)
    while spreads.queue:
        columns.go_on(work)
        if len({columns.tale(spread): True for spread in spreads.known}) > most:
            raise TooMany("states", most)
        guess = proved_guess(graph, columns, most, work)
        if guess is not None:
            return guess
        work = work * 2
        spreads.go_on(work)
    return spreads.least(most)


def proved_guess(graph, columns, most, work):
    """The least form, if it is guessed and proved with so much work, otherwise None; TooMany as least_of tells.

    A line that shows that the guess is wrong has an end whose column tells more spreads apart.
    """
    left = work
    while left > 0:
        guess = guessed_form(graph, columns, most)
        # If all columns are known, nothing else can tell spreads apart.
        if not columns.queue:
            return guess
        line = least_line_without(graph, guess)
        if line is None:
            is_sure, line = missed_line(graph, guess, work)
            if line is None:
                return guess if is_sure else None
        columns.put_ends_of(line)
        left = left - len(guess[0])
    return None


def guessed_form(graph, columns, most):
    """The form whose states are the tales of the spreads that are met; TooMany if they are more than most."""
    met = [graph.first]
    places = {columns.tale(graph.first): 0}
    rows = []
    while len(rows) < len(met):
        row = []
        for sign in graph.letters:
            spread = spread_behind(graph, met[len(rows)], sign)
            tale = columns.tale(spread)
            if tale not in places:
                places[tale] = len(met)
                met.append(spread)
            row.append(places[tale])
        if len(met) > most:
            raise TooMany("states", most)
        rows.append(tuple(row))
    return rows, [place for place, spread in enumerate(met) if has_last(graph, spread)]


def missed_line(graph, form, work):
    """A tuple (is it sure, a line that the form accepts and the net does not, or None), found with so much work.

    What a spread accepts is accepted by each one that contains it, so those that contain another one with the same
    state are left out.
    """
    rows, ends = form
    is_end = {end: True for end in ends}
    kept = {}
    pairs = [(0, graph.first)]
    origins = [(0, 0, "")]
    queue = [(len(graph.first), 0)]
    left = work
    while queue and left > 0:
        size, number = heappop(queue)
        state, spread = pairs[number]
        if state in is_end and not has_last(graph, spread):
            return True, line_behind(origins, number)
        for place, sign in enumerate(graph.letters):
            target = rows[state][place]
            behind = spread_behind(graph, spread, sign)
            if not is_dead(rows, is_end, target) and add_least(kept, target, mask_of(behind)):
                heappush(queue, (len(behind), len(pairs)))
                pairs.append((target, behind))
                origins.append((0, number, sign))
        left = left - size - 1
    return len(queue) == 0, None
