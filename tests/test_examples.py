"""The examples of the document, word for word."""

import doctest
import unittest

MACHINES = """
>>> from frontlines.machines import Machine
>>> dashes = Machine.tailed("->a", "-", "-")
>>> [dashes.rows(), dashes.ends(), "--" in dashes, dashes.first_line(), (dashes & Machine.longer("->a", 2)).first_line()]
[[(1, 2, 2), (1, 2, 2), (2, 2, 2)], [1], True, '-', '---']
>>> [dashes.how_many(7), Machine.having("->a", ">").how_many(2), Machine.every("->a").first_lines(5)]
[1, 5, ['', '-', '>', 'a', '--']]
"""

RELAYS = """
>>> from frontlines.relays import Relay
>>> strip, quote = Relay("->a", [("front", ">", "")]), Relay("->a", [("front", "-", ">-"), ("front", ">", ">>")])
>>> [strip(">>--"), quote("--"), quote("a"), strip.table()]
['>--', '>--', 'a', [('whole', '', ''), ('front', '-', '-'), ('front', '>', ''), ('front', 'a', 'a')]]
>>> [strip.joined_lines(), quote.joined_lines(), strip.undoes(quote), quote.undoing().rules(), strip.power(2).rules()]
[('', '>'), None, True, [('front', '>-', '-'), ('front', '>>', '>')], [('whole', '>', ''), ('front', '>-', '-'), ('front', '>>', ''), ('front', '>a', 'a')]]
"""

REPRS = """
>>> from frontlines.machines import Machine
>>> from frontlines.relays import Relay
>>> Machine('->a', [(0, 1, 1), (1, 1, 1)], [0])
Machine('->a', [(0, 1, 1), (1, 1, 1)], [0])
>>> Relay('->a', [('front', '>', '')])
Relay('->a', [('front', '>', '')])
>>> Machine.MOST_STATES
300
"""


class Examples(unittest.TestCase):
    def check(self, text):
        test = doctest.DocTestParser().get_doctest(text, {}, "DOC.md", None, 0)
        result = doctest.DocTestRunner().run(test)
        self.assertGreater(result.attempted, 0)
        self.assertEqual(result.failed, 0)

    def test_machines(self):
        self.check(MACHINES)

    def test_relays(self):
        self.check(RELAYS)

    def test_reprs(self):
        self.check(REPRS)
