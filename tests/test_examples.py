"""The examples of the document, word for word."""

import doctest
import unittest

MACHINES = """
>>> from frontlines.machines import Machine
>>> dashes = Machine.tailed("->a", "-", "-")
>>> [dashes.rows(), dashes.ends(), "--" in dashes, dashes.first_line(), (dashes & Machine.longer("->a", 2)).first_line()]
[[(1, 2, 2), (1, 2, 2), (2, 2, 2)], [1], True, '-', '---']
>>> [dashes.how_many(7), Machine.having("->a", ">").how_many(2), Machine.every("->a").first_lines(5)]
[1, 5, ['', '-', '>', 'a', '--']]
"""

RELAYS = """
>>> from frontlines.relays import Relay
>>> strip, quote = Relay("->a", [("front", ">", "")]), Relay("->a", [("front", "-", ">-"), ("front", ">", ">>")])
>>> [strip(">>--"), quote("--"), quote("a"), strip.table()]
['>--', '>--', 'a', [('whole', '', ''), ('front', '-', '-'), ('front', '>', ''), ('front', 'a', 'a')]]
>>> [strip.joined_lines(), quote.joined_lines(), strip.undoes(quote), quote.undoing().rules(), strip.power(2).rules()]
[('', '>'), None, True, [('front', '>-', '-'), ('front', '>>', '>')], [('whole', '>', ''), ('front', '>-', '-'), ('front', '>>', ''), ('front', '>a', 'a')]]
"""

CHAINS = """
>>> from frontlines.chains import before, chain_to, is_barrier, steps
>>> mark = Machine.of_lines("->a", ["--"])
>>> known = before([strip], mark)
>>> [known.first_lines(3), known.states, steps([strip], ">>>--", mark), chain_to([strip], ">>>--", mark), steps([strip], "a--", mark)]
[['--', '>--', '>>--'], 4, 3, [0, 0, 0], None]
>>> [is_barrier([strip], "a--", mark, known), is_barrier([strip], ">--", mark, known), is_barrier([strip], "a--", mark, mark)]
[True, False, False]
"""

WRITERS = """
>>> from frontlines.writers import Writer, safe_looks
>>> plain = Writer([strip], "whole", "whole")
>>> [plain.first_unsafe("--"), safe_looks([strip], "--", "whole"), plain.safe_sets("--"), plain.unsafe_sets("--")]
[('>--', 1), ['part', 'any'], [()], [(0,)]]
>>> [plain.choice(["--", "->"], ["a", "--"]), plain.sorts(["--", "->"]), plain.least_full_body(["--", "->"])]
['->', [((), ''), ((0,), '--'), ((1,), '->')], ['--', '->']]
"""

SCHEMES = """
>>> from frontlines.readers import Reader
>>> from frontlines.schemes import Scheme
>>> reader = Reader("->a", ["--"], ">")
>>> loose, tight = Scheme(reader, [strip], "whole"), Scheme(reader, [strip], "any")
>>> [loose.is_kept(("next", 1)), loose.faults(), loose.lets(">--"), tight.is_sound(), tight.lets(">>-->"), tight.lets("a")]
[True, [('body', '>--', 1)], True, True, False, True]
>>> [Reader("->a", ["-", "--"], ">", sight="start", order="outer").role_at("--", 2), Scheme(reader, [quote], "any").first_fault()]
[('next', 1), (('next', 1), '--', 1)]
"""

TREES = """
>>> from frontlines.trees import goes_wrong, own_telling, telling, tree_read, written
>>> pair = Reader("->a", ["--", "->"], ">")
>>> tree = [[["a", ""], []], []]
>>> written(pair, tree)
['--', '->', 'a', '', '->', '->>', '--', '->>', '-->']
>>> own_telling(pair, tree)[:4]
[('next', 1), ('next', 2), ('line', 0), ('line', 0)]
>>> [tree_read(pair, written(pair, tree)) == tree, telling(pair, ["--", "a"]), goes_wrong(loose, [[">--"]], [0])]
[True, None, True]
"""

BREAKS = """
>>> from frontlines.breaks import coming, first_coming, is_coming_way, pieces
>>> [pieces("->a", "a->-a", 2), coming([strip], 2, mark).first_lines(4), is_coming_way([strip], 2, "a>--", mark, [("piece", 1)])]
[['a-', '>-', 'a'], ['--', '---', '-->', '--a'], True]
"""

ALIKE = """
>>> from frontlines.alike import are_alike, line_views, unlike_message
>>> strict, lenient = Reader("->a", ["--"], ">"), Reader("->a", ["--"], ">", sight="start")
>>> [are_alike(strict, lenient), unlike_message(strict, lenient), unlike_message(strict, strict.with_care("finish", "close"))]
[False, ['-->-'], []]
>>> line_views(strict, lenient)
[([], [], ''), ([('next', 1)], [('next', 1)], '--'), ([], [('next', 1)], '---'), ([('end', 1)], [('next', 1), ('end', 1)], '-->'), ([], [('next', 1), ('end', 1)], '-->-')]
"""

DESK = """
>>> from frontlines.desk import Desk
>>> from frontlines.texts import text_of
>>> text_of(loose)
'signs ->a\\nrelay front > _\\nmark --\\ntail >\\nsight whole\\norder inner\\nfurther refuse\\nfinish refuse\\nlook whole\\n'
>>> desk = Desk(loose)
>>> desk.do_all("sound", "care look any", "sound", "turn >>-- 0 0", "tell -- a -->", "undo", "sound")
['no body 0 >-- 1', 'done', 'yes', '--', 'next 1, line, end 1', 'care look any', 'no body 0 >-- 1']
"""

# Told in words: what a relay takes away turn by turn, and what becomes the mark.
OVERVIEW = """
>>> [steps([strip], ">--", mark), steps([strip], ">>--", mark), Writer([strip], "whole", "whole").is_safe("--")]
[1, 2, False]
>>> before([strip], mark) == Machine("->a", [(1, 0, 3), (2, 3, 3), (3, 3, 3), (3, 3, 3)], [2])
True
"""

REPRS = """
>>> from frontlines.machines import Machine
>>> from frontlines.relays import Relay
>>> Machine('->a', [(0, 1, 1), (1, 1, 1)], [0])
Machine('->a', [(0, 1, 1), (1, 1, 1)], [0])
>>> Relay('->a', [('front', '>', '')])
Relay('->a', [('front', '>', '')])
>>> Machine.MOST_STATES
300
>>> from frontlines.readers import Reader
>>> from frontlines.schemes import Scheme
>>> from frontlines.writers import Writer
>>> Reader('->a', ['--', '->'], '-', sight='whole', order='inner', further='refuse', finish='refuse')
Reader('->a', ['--', '->'], '-', sight='whole', order='inner', further='refuse', finish='refuse')
>>> Writer([Relay('->a', []), Relay('->a', [('whole', '', '-')])], 'whole', 'any')
Writer([Relay('->a', []), Relay('->a', [('whole', '', '-')])], 'whole', 'any')
>>> Scheme(Reader('->a', ['--'], '-'), [Relay('->a', [])], 'any')
Scheme(Reader('->a', ['--'], '-', sight='whole', order='inner', further='refuse', finish='refuse'), [Relay('->a', [])], 'any')
"""


class Examples(unittest.TestCase):
    def check(self, text):
        test = doctest.DocTestParser().get_doctest(text, {}, "DOC.md", None, 0)
        result = doctest.DocTestRunner().run(test)
        self.assertGreater(result.attempted, 0)
        self.assertEqual(result.failed, 0)

    def test_machines(self):
        self.check(MACHINES)

    def test_relays(self):
        self.check(RELAYS)

    def test_chains(self):
        self.check(MACHINES + RELAYS + CHAINS)

    def test_writers(self):
        self.check(RELAYS + WRITERS)

    def test_schemes(self):
        self.check(RELAYS + SCHEMES)

    def test_trees(self):
        self.check(RELAYS + SCHEMES + TREES)

    def test_breaks(self):
        self.check(MACHINES + RELAYS + CHAINS + BREAKS)

    def test_alike(self):
        self.check(SCHEMES.partition(">>> reader")[0] + ALIKE)

    def test_desk(self):
        self.check(RELAYS + SCHEMES + DESK)

    def test_all_one_after_another(self):
        self.check(MACHINES + RELAYS + CHAINS + WRITERS + SCHEMES + TREES + BREAKS + ALIKE + DESK)

    def test_overview(self):
        self.check(MACHINES + RELAYS + CHAINS + WRITERS + OVERVIEW)

    def test_reprs(self):
        self.check(REPRS)
