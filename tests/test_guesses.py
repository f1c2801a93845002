"""Least forms of nets: those that are guessed and proved are those that going through all spreads gives."""

import random

from frontlines.chains import form_of
from frontlines.errors import TooMany
from frontlines.guesses import Columns, least_of, proved_guess
from frontlines.machines import Machine
from frontlines.nets import chain_net
from frontlines.relays import Relay
from frontlines.spreads import Graph, Spreads
from frontlines.turns import turned_back, turns_of
from tests import brute
from tests.cases import Case


def some_net(source):
    signs = source.choice(["ab", "->a"])
    relays = [Relay(signs, brute.random_rules(source, signs, 4, source.randrange(1, 4)))
              for _ in range(source.randrange(1, 4))]
    machine = Machine(signs, *brute.random_form(source, signs, source.randrange(1, 9)))
    turns = turns_of(relays)
    return chain_net(signs, form_of(machine), turns if source.random() < 0.5 else turned_back(turns))


class Guesses(Case):
    def test_against_all_spreads(self):
        sure = 0
        for seed in range(1500):
            source = random.Random(seed)
            net = some_net(source)
            graph = Graph(net)
            spreads = Spreads(graph)
            spreads.go_on(20000)
            if spreads.queue:
                continue
            most = source.choice([5, 20, 300])
            try:
                wanted = spreads.least(most)
            except TooMany:
                wanted = None
            columns = Columns(graph)
            columns.go_on(source.choice([0, 1, 5, 20]))
            try:
                found = proved_guess(graph, columns, most, source.choice([5, 50, 10 ** 6]))
                if found is not None:
                    self.assertEqual(found, wanted, seed)
                    sure = sure + 1
            except TooMany:
                self.assertIsNone(wanted, seed)
        self.assertGreater(sure, 500)

    def test_least_forms_are_least(self):
        for seed in range(300):
            net = some_net(random.Random(seed))
            try:
                rows, ends = least_of(net, 300)
            except TooMany:
                continue
            self.assertEqual((rows, ends), brute.least(net.letters, rows, ends), seed)
