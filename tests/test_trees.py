"""Trees, messages and tellings, held against a plain reader; and what goes wrong, against a slow search."""

import random
from itertools import product

from frontlines.errors import TooMany
from frontlines.readers import Reader
from frontlines.relays import Relay
from frontlines.schemes import Scheme
from frontlines.trees import (
    course,
    goes_wrong,
    is_tree,
    is_wrong_way,
    own_telling,
    telling,
    tree_read,
    wrong_way,
    written,
)
from tests import brute, slow, told
from tests.cases import STRANGE, AlwaysEqual, Case
from tests.test_chain_errors import BAD_CHAINS, code, doubling
from tests.test_machine_errors import BAD_LINES
from tests.test_schemes import PAIR, QUOTE, READER, SAME, STRIP, some
from tests.test_writer_errors import far_sign

DEEP = Reader("->a", ["-", "--", ">"], "a")


def with_rest(reader, source):
    """The scheme's reader with any words of the cares that soundness does not hang on."""
    return reader.with_care("further", source.choice(["refuse", "close"])).with_care(
        "finish", source.choice(["refuse", "close"]))


def some_scheme(seed, depth=2, many=3):
    """A small scheme with any cares, and how it is told slowly."""
    scheme, _, parts, size = some(seed, depth, many)
    return Scheme(with_rest(scheme.reader, random.Random(seed)), scheme.relays(), scheme.look), parts, size


class Written(Case):
    def test_by_hand(self):
        self.assertEqual(written(READER, []), ["-->"])
        self.assertEqual(written(READER, [[]]), ["--", "-->"])
        self.assertEqual(written(READER, [["a", "--"], [], [""]]), ["--", "a", "--", "--", "--", "", "-->"])
        self.assertEqual(written(PAIR, []), ["-->"])
        self.assertEqual(written(PAIR, [[]]), ["--", "->>", "-->"])
        self.assertEqual(written(PAIR, [[[]]]), ["--", "->", "->>", "-->"])
        self.assertEqual(written(DEEP, [[[[""]], []]]), ["-", "--", ">", "", ">a", "--", ">a", "--a", "-a"])
        self.assertEqual(own_telling(READER, [["a", "--"], [], [""]]), [
            ("next", 1), ("line", 0), ("line", 0), ("next", 1), ("next", 1), ("line", 0), ("end", 1)])
        self.assertEqual(own_telling(DEEP, [[[[""]], []]]), [
            ("next", 1), ("next", 2), ("next", 3), ("line", 0), ("end", 3), ("next", 2), ("end", 3), ("end", 2),
            ("end", 1)])
        self.assertEqual(own_telling(PAIR, []), [("end", 1)])

    def test_against_a_plain_writer(self):
        for seed in range(200):
            source = random.Random(seed)
            reader = told.some_reader(source)
            lines = brute.lines_up_to(reader.signs, 2) + told.role_lines(reader)
            tree = told.some_tree(source, reader, lines)
            rows = told.written(reader, tree)
            self.assertEqual(written(reader, tree), [line for line, _ in rows])
            self.assertEqual(own_telling(reader, tree), [kind for _, kind in rows])
            self.assertIs(is_tree(reader, tree), True)

    def test_cares_do_not_matter(self):
        tree = [[["a"], []], []]
        for reader in told.every_care(PAIR):
            self.assertEqual(written(reader, tree), ["--", "->", "a", "->", "->>", "--", "->>", "-->"])
            self.assertEqual(own_telling(reader, tree), own_telling(PAIR, tree))

    def test_tuples_and_names(self):
        self.assertEqual(written(tree=((("a",), []), ()), reader=PAIR), written(PAIR, [[["a"], []], []]))
        self.assertEqual(own_telling(tree=(([("a")],), ()), reader=PAIR), own_telling(PAIR, [[["a"]], []]))
        self.assertIs(written(PAIR, ()).__class__, list)
        self.assertIs(own_telling(PAIR, ()).__class__, list)
        self.assertEqual(len(written(READER, [["a"] * 1998])), 2000)


class Read(Case):
    def look(self, reader, message):
        stands, found = told.read(reader, message)
        self.assertEqual(course(reader, message), stands, (reader, message))
        self.assertEqual(telling(reader, message), found, (reader, message))
        tree = None if found is None else told.tree_of(reader.depth, found, message)
        self.assertEqual(tree_read(reader, message), tree, (reader, message))
        return found is not None

    def test_against_a_plain_reader(self):
        taken = 0
        for seed in range(600):
            source = random.Random(seed)
            reader = told.some_reader(source)
            lines = brute.lines_up_to(reader.signs, 3)
            for _ in range(4):
                taken = taken + self.look(reader, told.some_message(source, reader, lines))
            message = written(reader, told.some_tree(source, reader, lines))
            for _ in range(4):
                taken = taken + self.look(reader, message)
                message = told.changed(source, message, lines + told.role_lines(reader))
        self.assertGreater(taken, 400)
        self.assertLess(taken, 4000)

    def test_all_short_messages_by_each_care(self):
        pair = Reader("->a", ["-", "--"], ">")
        lines = ["-", "->", "--", "-->", "a"]
        messages = [list(message) for size in range(5) for message in product(lines, repeat=size)]
        for reader in told.every_care(pair):
            for message in messages:
                self.look(reader, message)

    def test_stands_by_hand(self):
        self.assertEqual(course(READER, []), [(1, "wait")])
        self.assertEqual(course(READER, ["a"]), [(1, "wait")])
        self.assertEqual(course(READER, ["--", "a", "--", "-->", "-->", "a"]), [
            (1, "wait"), (1, "body"), (1, "body"), (1, "body"), (0, "wait")])
        self.assertEqual(course(PAIR, ["--", "->", "a", "->>", "--", "->>", "-->"]), [
            (1, "wait"), (2, "wait"), (2, "body"), (2, "body"), (1, "wait"), (2, "wait"), (1, "wait"), (0, "wait")])
        # A mark further out is refused, or closes what is open; so does the end of the message.
        message = ["--", "->", "a", "--", "-->"]
        self.assertEqual(course(PAIR, message), [(1, "wait"), (2, "wait"), (2, "body"), (2, "body")])
        closing = PAIR.with_care("further", "close")
        self.assertEqual(course(closing, message), [
            (1, "wait"), (2, "wait"), (2, "body"), (2, "body"), (2, "wait"), (0, "wait")])
        self.assertEqual(telling(closing, message), [
            ("next", 1), ("next", 2), ("line", 0), ("next", 1), ("end", 1)])
        self.assertEqual(tree_read(closing, message), [[["a"]], []])
        self.assertIsNone(telling(PAIR, message))
        self.assertIsNone(tree_read(PAIR, message))

    def test_the_end(self):
        for reader in (READER, PAIR, DEEP):
            lenient = reader.with_care("finish", "close")
            self.assertIsNone(telling(reader, []))
            self.assertIsNone(tree_read(reader, []))
            self.assertEqual(telling(lenient, []), [])
            self.assertEqual(tree_read(lenient, []), [])
            whole = written(reader, [])
            self.assertEqual(telling(reader, whole), [("end", 1)])
            for behind in ("a", "", whole[-1], reader[1]):
                for each in (reader, lenient, lenient.with_care("further", "close")):
                    self.assertIsNone(telling(each, whole + [behind]))
                    self.assertEqual(course(each, whole + [behind]), [(1, "wait"), (0, "wait")])
        lenient = DEEP.with_care("finish", "close")
        self.assertEqual(tree_read(lenient, ["-"]), [[]])
        self.assertEqual(tree_read(lenient, ["-", "--", ">", "a"]), [[[["a"]]]])
        self.assertEqual(tree_read(lenient, ["-", "--", ">a"]), [[[]]])

    def test_lines_that_look_like_marks(self):
        # The line of the first mark is taken in a body of the second one, so the message is refused.
        tree = [[["--"]], []]
        self.assertIsNone(telling(PAIR, written(PAIR, tree)))
        self.assertEqual(tree_read(PAIR.with_care("further", "close"), ["--", "->", "--", "-->"]), [[[]], []])
        # By the sight start a line with a mark ahead of it is taken, too; the end is asked first.
        start = READER.with_care("sight", "start")
        self.assertEqual(telling(start, ["--a", "a", "-->a"]), [("next", 1), ("line", 0), ("end", 1)])
        runs = READER.with_care("sight", ">")
        self.assertEqual(telling(runs, ["--", "--a", "-->>"]), [("next", 1), ("line", 0), ("end", 1)])
        self.assertEqual(telling(READER, ["--", "-->>", "-->"]), [("next", 1), ("line", 0), ("end", 1)])

    def test_order_of_asking(self):
        inner = Reader("->a", ["-", "->"], ">", further="close", finish="close")
        self.assertEqual(telling(inner, ["-", "->"]), [("next", 1), ("next", 2)])
        self.assertEqual(telling(inner.with_care("order", "outer"), ["-", "->"]), [("next", 1), ("end", 1)])

    def test_own_tree_is_read(self):
        for reader in told.every_care(Reader("->a", ["--", "->"], "-")):
            for tree in ([], [[]], [[[]]], [[["a", ""], []], []], [[], [["aa"]]]):
                self.assertEqual(tree_read(reader, written(reader, tree)), tree)
                self.assertEqual(telling(reader, written(reader, tree)), own_telling(reader, tree))

    def test_tuples_and_names(self):
        message = ("--", "a", "-->")
        self.assertEqual(telling(message=message, reader=READER), telling(READER, list(message)))
        self.assertEqual(course(message=message, reader=READER), course(READER, list(message)))
        self.assertEqual(tree_read(message=message, reader=READER), [["a"]])
        self.assertEqual([call(READER, message).__class__ for call in (telling, course, tree_read)], [list] * 3)
        for each in course(READER, message) + telling(READER, message):
            self.assertIs(each.__class__, tuple)
        self.assertEqual(len(telling(READER, ["--"] * 1999 + ["-->"])), 2000)


class IsTree(Case):
    RIGHT = {
        1: [[], (), [[]], ([], ()), [["a", ""], ("--", "-->")], [["a"] * 50]],
        2: [[], (), [[]], [[], ([],)], [[["a"], []], ()]],
        3: [[], [[]], [[[]]], [[[["a", ""]]], []], ((((),),),)],
    }
    WRONG = {
        1: [["a"], [[], "a"], [[["a"]]], [["a", "b"]], [[""], ["a", None]], [["a"], None], [[0]], [[True]]],
        2: [[["a"]], [[], ["a"]], [[[["a"]]]], [[["a"]], [["b"]]], [[["a", "a "]]], ["a"], [[[]], ""], [[[1]]]],
        3: [[[["a"]]], [[[]], "a"], [[[["b"]]]], [[[[""]], [[], ["a", []]]]], [[[[False]]]]],
    }

    def test_depths(self):
        for depth, reader in ((1, READER), (2, PAIR), (3, DEEP)):
            for tree in self.RIGHT[depth]:
                self.assertIs(is_tree(reader, tree), True, tree)
            for value in self.WRONG[depth]:
                self.assertIs(is_tree(reader, value), False, value)
            for value in STRANGE + ["", "a", 0, 1, AlwaysEqual()]:
                self.assertIs(is_tree(reader, value), False)
                self.assertIs(is_tree(reader, [value]), False)
                self.assertIs(is_tree(value=[[], value], reader=reader), False)
            for value in BAD_LINES + [AlwaysEqual()]:
                body = ["a", value]
                for _ in range(depth):
                    body = [[], body]
                self.assertIs(is_tree(reader, body), False)


class Wrong(Case):
    def test_against_a_slow_search(self):
        wrong = 0
        for seed in range(300):
            scheme, parts, size = some_scheme(seed)
            source = random.Random(seed)
            lines = brute.lines_up_to(parts.signs, 3)
            let = [line for line in lines if parts.lets(line)]
            for pool in (lines, let or ["a"], let[:3] or ["a"]):
                tree = told.some_tree(source, scheme.reader, pool + told.role_lines(scheme.reader) * (pool is lines))
                chain = [source.randrange(len(parts.relays)) for _ in range(source.randrange(5))]
                found = goes_wrong(scheme, tree, chain)
                self.assertIs(found, told.goes_wrong(scheme, parts, tree, chain), (seed, tree, chain))
                self.assertIs(is_wrong_way(scheme, (tree, chain)), found)
                wrong = wrong + found
                if scheme.is_sound() and pool is not lines:
                    self.assertIs(found, False)
        self.assertGreater(wrong, 100)
        self.assertLess(wrong, 800)

    def test_ways_of_schemes_that_are_not_sound(self):
        sound = 0
        for seed in range(300):
            scheme, parts, _ = some_scheme(seed, depth=3)
            way = wrong_way(scheme)
            if scheme.is_sound():
                sound = sound + 1
                self.assertIsNone(way)
                continue
            self.assertEqual((way.__class__, len(way), way[1].__class__), (tuple, 2, list))
            self.assertIs(told.goes_wrong(scheme, parts, *way), True, (seed, way))
            self.assertIs(goes_wrong(scheme, *way), True)
            self.assertIs(is_wrong_way(scheme, way), True)
            self.assertEqual(wrong_way(scheme), way)
        self.assertGreater(sound, 20)
        self.assertLess(sound, 280)

    def test_sound_schemes_read_what_was_written(self):
        done = 0
        for seed in range(400):
            scheme, parts, _ = some_scheme(seed)
            let = [line for line in brute.lines_up_to(parts.signs, 3) if parts.lets(line)]
            if not scheme.is_sound() or not let:
                continue
            source = random.Random(seed)
            for _ in range(4):
                tree = told.some_tree(source, scheme.reader, let)
                chain = [source.randrange(len(parts.relays)) for _ in range(source.randrange(4))]
                message = [told.turned(parts.relays, line, chain) for line in written(scheme.reader, tree)]
                wanted = told.tree_of(scheme.reader.depth, own_telling(scheme.reader, tree), message)
                self.assertEqual(tree_read(scheme.reader, message), wanted)
                done = done + 1
        self.assertGreater(done, 100)

    def test_each_kind_of_fault(self):
        # The role is lost while just its own levels are open; the tree has it there.
        lose = {line: Relay("->a", [("whole", line, "a")]) for line in ("--", "-->", "->", "->>")}
        trees = {"--": [[]], "-->": [], "->": [[[]]], "->>": [[]]}
        for line, relay in lose.items():
            scheme = Scheme(PAIR, [SAME, relay], "any")
            self.assertIs(goes_wrong(scheme, trees[line], [1]), True)
            self.assertIs(goes_wrong(scheme, trees[line], [0, 1, 0]), True)
            self.assertIs(goes_wrong(scheme, trees[line], [0]), False)
            way = wrong_way(scheme)
            self.assertIs(goes_wrong(scheme, *way), True)
        self.assertIs(goes_wrong(Scheme(PAIR, [lose["->"]], "any"), [[]], [0]), False)
        self.assertIs(goes_wrong(Scheme(PAIR, [STRIP], "whole"), [[[">->", "a"]]], [0]), True)
        self.assertIs(goes_wrong(Scheme(PAIR, [STRIP], "whole"), [[[">->", "a"]]], [0, 0]), True)
        self.assertIs(goes_wrong(Scheme(PAIR, [STRIP], "whole"), [[[">>->", "a"]]], [0]), False)

    def test_lines_that_are_not_let(self):
        self.assertIs(goes_wrong(Scheme(READER, [STRIP], "none"), [["--"]], []), True)
        for look in ("whole", "start", "part", "any"):
            self.assertIs(goes_wrong(Scheme(READER, [STRIP], look), [["--"]], []), False)
            self.assertIs(goes_wrong(Scheme(READER, [STRIP], look), [[], ["a", "--"]], [0]), False)
        for look in ("none", "whole", "start"):
            self.assertIs(goes_wrong(Scheme(READER, [STRIP], look), [["a"], [">--"]], [0]), True)
        for look in ("part", "any"):
            self.assertIs(goes_wrong(Scheme(READER, [STRIP], look), [["a"], [">--"]], [0]), False)
        # A role that is lost goes wrong, but not with a body that is not let.
        for look in ("whole", "any"):
            self.assertIs(goes_wrong(Scheme(READER, [QUOTE], look), [["a"]], [0]), True)
            self.assertIs(goes_wrong(Scheme(READER, [QUOTE], look), [["a", "--"]], [0]), False)

    def test_tuples_and_names(self):
        scheme = Scheme(READER, [STRIP], "whole")
        self.assertIs(goes_wrong(chain=(0,), tree=((">--",), ()), scheme=scheme), True)
        self.assertIs(is_wrong_way(value=(((">--",), ()), (0,)), scheme=scheme), True)
        self.assertEqual(wrong_way(scheme=scheme), ([[">--"]], [0]))
        self.assertIsNone(wrong_way(scheme=Scheme(READER, [STRIP], "any")))
        self.assertIs(goes_wrong(scheme, [[">" * 2001 + "--"]], [0] * 2000), False)
        self.assertIs(goes_wrong(scheme, [[">" * 2000 + "--"]], [0] * 2000), True)

    def test_any_values_are_no_wrong_ways(self):
        scheme = Scheme(READER, [STRIP], "whole")
        tree, chain = [[">--"]], [0]
        self.assertIs(is_wrong_way(scheme, (tree, chain)), True)
        for value in STRANGE + [
            "", 0, [tree, chain], (), (tree,), (tree, chain, None), (chain, tree), ((tree, chain),), (tree, []),
            (tree, [0, 1]), (tree, [1]), ([">--"], chain), ([[[">--"]]], chain), ([["b"]], chain), (tree, None),
            ([["--"]], []), ([["a"]], [0]), AlwaysEqual(), (AlwaysEqual(), chain), (tree, AlwaysEqual()), "ab",
        ]:
            self.assertIs(is_wrong_way(scheme, value), False, value)
        for value in STRANGE + [0, "b", AlwaysEqual()]:
            self.assertIs(is_wrong_way(scheme, (value, chain)), False)
            self.assertIs(is_wrong_way(scheme, ([value], chain)), False)
            self.assertIs(is_wrong_way(scheme, ([[">--", value]], chain)), False)
        for value, _ in BAD_CHAINS:
            self.assertIs(is_wrong_way(scheme, (tree, value)), False)
        self.assertIs(is_wrong_way(Scheme(READER, [STRIP, STRIP], "whole"), (tree, [True])), False)


def by_steps(codes):
    """A scheme whose first fault is that of the empty line, with a step more than the codes take."""
    count = Relay("-.=>", doubling(150).rules()[:-1] + [("whole", code(0), "."), ("front", code(0), "")])
    return Scheme(Reader("-.=>", ["."], "."), [count, Relay("-.=>", [("whole", "", "".join(map(code, codes)))])], "whole")


class Limits(Case):
    STEPS = {"what": "steps", "limit": 200}

    def test_200_steps(self):
        scheme = by_steps([6, 5, 2, 0, 0])
        self.assertEqual(scheme.first_fault(), ("body", "", 200))
        tree, chain = wrong_way(scheme)
        self.assertEqual((tree, len(chain)), ([[""]], 200))
        self.assertIs(goes_wrong(scheme, tree, chain), True)
        self.assertIs(is_wrong_way(scheme, (tree, chain)), True)
        self.assertIs(is_wrong_way(scheme, (tree, chain[:-1])), False)

    def test_more_steps(self):
        for codes, number in (([6, 5, 2, 1], 201), ([7], 256), ([90], 2 ** 91)):
            scheme = by_steps(codes)
            self.assertEqual(scheme.first_fault(), ("body", "", number))
            self.fails(TooMany, self.STEPS, wrong_way, scheme)
            self.fails(TooMany, self.STEPS, wrong_way, scheme=scheme)
        self.fails(TooMany, self.STEPS, wrong_way, by_steps([150]))
        self.assertIs(goes_wrong(by_steps([150]), [[""]], [1] + [0] * 300), False)

    def test_only_the_first_fault_counts(self):
        scheme = by_steps([150])
        lose = Scheme(scheme.reader, scheme.relays() + [Relay("-.=>", [("whole", "..", "-")])], "whole")
        self.assertEqual(wrong_way(lose), ([], [2]))

    def test_look_any_has_no_limit_of_states(self):
        reader = Reader(">ab", [">"], "a")
        scheme = Scheme(reader, far_sign(12), "any")
        self.assertIs(goes_wrong(scheme, [["b" * 30 + "a" * 13]], []), False)
        self.assertIs(goes_wrong(scheme, [["b" * 30]], []), False)
        self.assertIs(goes_wrong(Scheme(reader, far_sign(12), "whole"), [["b" * 2 + "a" * 13]], [0, 0, 1]), False)
