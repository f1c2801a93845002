"""What breaking makes of lines, held against a slow search through turns and pieces in any sequence."""

import random

from frontlines.breaks import are_numbers_right, coming, first_coming, first_longer, is_coming_way, pieces
from frontlines.chains import before
from frontlines.errors import TooMany
from frontlines.machines import Machine
from frontlines.readers import Reader
from frontlines.relays import Relay
from frontlines.schemes import Scheme
from tests import brute, slow, told
from tests.cases import STRANGE, AlwaysEqual, Case
from tests.test_chain_errors import sign_from_the_end
from tests.test_schemes import QUOTE, READER, SAME, STRIP, some
from tests.test_writer_errors import far_sign

MARK = Machine.of_lines("->a", ["--"])
STATES = {"what": "states", "limit": 300}


def some_relays(source, signs):
    rules = [slow.shrinking_rules(source, signs, 3, 4) for _ in range(source.randrange(1, 4))]
    return rules, [Relay(signs, each) for each in rules]


def some_machine(source, signs):
    """A machine of a few lines, or any small one."""
    if source.random() < 0.6:
        lines = brute.lines_up_to(signs, 4)
        return Machine.of_lines(signs, [source.choice(lines) for _ in range(source.randrange(1, 4))])
    return Machine(signs, *brute.random_form(source, signs, source.randrange(1, 5)))


class Pieces(Case):
    def test_by_hand(self):
        self.assertEqual(pieces("->a", "a->-a", 1), ["a", "-", ">", "-", "a"])
        self.assertEqual(pieces("->a", "a->-a", 2), ["a-", ">-", "a"])
        self.assertEqual(pieces("->a", "a->-a", 3), ["a->", "-a"])
        self.assertEqual(pieces("->a", "a->-a", 4), ["a->-", "a"])
        self.assertEqual(pieces(width=4, line="a->-", signs="->a"), ["a->-"])
        self.assertIs(pieces("ab", "ab", 1).__class__, list)
        self.assertEqual(pieces("ab", "ab" * 2000, 4), ["abab"] * 1000)

    def test_short_lines(self):
        for width in (1, 2, 3, 4):
            self.assertEqual(pieces("ab", "", width), [""])
            for line in brute.lines_up_to("ab", width):
                self.assertEqual(pieces("ab", line, width), [line])

    def test_all_short_ones(self):
        for line in brute.lines_up_to("ab", 9):
            for width in (1, 2, 3, 4):
                found = pieces("ab", line, width)
                self.assertEqual(found, told.pieces(line, width))
                self.assertEqual("".join(found), line)
                self.assertTrue(all(len(piece) == width for piece in found[:-1]))
                self.assertTrue(len(found) == 1 or 1 <= len(found[-1]) <= width)


class Coming(Case):
    def test_against_a_slow_search(self):
        every = 0
        for seed in range(160):
            source = random.Random(seed)
            signs = source.choice(["ab", "ab", "->a"])
            rules, relays = some_relays(source, signs)
            machine, width = some_machine(source, signs), source.randrange(1, 5)
            found = coming(relays, width, machine)
            self.assertIs(found.__class__, Machine)
            self.assertEqual(found.signs, signs)
            size = 7 if signs == "ab" else 5
            for line in brute.lines_up_to(signs, size):
                wanted = any(each in machine for each in told.broken(rules, width, line))
                self.assertEqual(line in found, wanted, (seed, width, line))
            every = every + (found in (Machine.every(signs), Machine.nothing(signs)))
        self.assertLess(every, 80)

    def test_the_least_lines_by_which_it_is_told(self):
        # As [72] tells it: F grows until it has all short lines of G; then the lines of G are those that come in.
        for seed in range(80):
            source = random.Random(seed)
            signs = source.choice(["ab", "->a"])
            relays = some_relays(source, signs)[1]
            if seed % 2:
                relays = [Relay(signs, brute.random_rules(source, signs, 3, 4)) for _ in range(2)]
            machine, width = some_machine(source, signs), source.randrange(1, 4)
            short = brute.lines_up_to(signs, width)
            few = []
            while True:
                whole = before(relays, machine | self.with_pieces(signs, few, width))
                more = [line for line in short if line in whole]
                if more == few:
                    break
                few = more
            self.assertEqual(coming(relays, width, machine), whole, seed)

    def with_pieces(self, signs, few, width):
        """The lines with more signs than the width of which some piece is one of these."""
        # A state is how many signs of a piece were met, which, and whether one of these was met before.
        met, rows, ends = {("", False, True): 0}, [], []
        for piece, hit, first in (todo := [("", False, True)]):
            row = []
            for sign in signs:
                if len(piece) < width:
                    new = (piece + sign, hit, first)
                else:
                    new = (sign, hit or piece in few, False)
                if new not in met:
                    met[new] = len(met)
                    todo.append(new)
                row.append(met[new])
            rows.append(row)
            if not first and (hit or piece in few):
                ends.append(met[(piece, hit, first)])
        return Machine(signs, rows, ends)

    def test_growing_relays(self):
        # A line that grows is broken; so its pieces may be short again.
        grow = Relay("ab", [("whole", "a", "aab")])
        found = coming([grow], 2, Machine.of_lines("ab", ["b"]))
        self.assertEqual(found.first_lines(7), ["a", "b", "aaa", "aab", "aba", "abb", "baa"])
        self.assertNotIn("aaaa", found)
        endless = Relay("ab", [("front", "", "b")])
        for width in (1, 2, 3, 4):
            found = coming([endless], width, Machine.of_lines("ab", ["a"]))
            self.assertEqual(found, Machine.having("ab", "a"), width)

    def test_pieces_are_whole(self):
        same = [SAME]
        self.assertEqual(coming(same, 1, MARK), MARK)
        self.assertEqual(coming(same, 2, MARK).first_lines(7), ["--", "---", "-->", "--a", "----", "--->", "---a"])
        self.assertIn("a>--a", coming(same, 2, MARK))
        self.assertNotIn("a--aa", coming(same, 2, MARK))
        self.assertNotIn("a---", coming(same, 3, MARK))
        self.assertIn("aaa--", coming(same, 3, MARK))
        self.assertNotIn("aaa-", coming(same, 3, MARK))
        # The line itself comes in, whatever its length.
        long = Machine.of_lines("->a", ["-" * 9])
        for width in (1, 2, 3, 4):
            self.assertEqual(coming(same, width, long), long)
        self.assertEqual(coming(same, 4, Machine.of_lines("->a", [""])), Machine.of_lines("->a", [""]))
        self.assertEqual(coming(same, 4, Machine.nothing("->a")), Machine.nothing("->a"))

    def test_short_lines_of_full_width(self):
        # A line of just as many signs has one piece, itself; so a piece of full width is turned, but not broken again.
        turn = Relay("ab", [("whole", "ab", "ba")])
        wanted = Machine.of_lines("ab", ["ba"])
        found = coming([turn], 2, wanted)
        self.assertEqual([line for line in brute.lines_up_to("ab", 2) if line in found], ["ab", "ba"])
        self.assertEqual([line for line in brute.lines_up_to("ab", 3) if line in found], [
            "ab", "ba", "aba", "abb", "baa", "bab"])

    def test_tuples_and_names(self):
        self.assertEqual(coming(machine=MARK, width=2, relays=(STRIP,)), coming([STRIP], 2, MARK))
        self.assertEqual(coming([STRIP] * 5, 2, MARK), coming([STRIP], 2, MARK))


class Limits(Case):
    def test_300_states(self):
        most = Machine.of_lines("->a", ["-" * 298])
        shorter = Relay("->a", [("front", ">" + "-" * 39, "-" * 39)])
        for width in (1, 2, 3, 4):
            self.assertEqual(coming([SAME], width, most).states, 300)
            self.fails(TooMany, STATES, coming, [shorter], width, most)

    def test_many_states(self):
        strip_any = Relay("ab", [("front", "a", ""), ("front", "b", "")])
        for size in (9, 20, 50, 290):
            self.fails(TooMany, STATES, coming, [strip_any], 4, sign_from_the_end(size))
            self.fails(TooMany, STATES, coming, machine=sign_from_the_end(size), width=1, relays=[strip_any])

    def test_without_a_limit(self):
        # What first_coming and first_longer look for has no limit of states.
        reader = Reader(">ab", [">"], "a")
        for look in ("whole", "part", "any"):
            scheme = Scheme(reader, far_sign(12), look)
            for width in (1, 2, 3, 4):
                line = first_coming(scheme, width)
                self.assertTrue(line is None or scheme.lets(line))
                found = first_longer(scheme, width)
                self.assertTrue(scheme.lets(found[0]))
                self.assertIs(are_numbers_right(scheme, width), False)

    def test_wide_pieces_of_four_signs(self):
        strip = Relay("-.=>", [("front", ">", "")])
        found = coming([strip], 4, Machine.of_lines("-.=>", ["--.."]))
        self.assertEqual(found.first_lines(6), ["--..", "--..-", "--...", "--..=", "--..>", ">--.."])
        self.assertIn("====--..", found)
        self.assertNotIn("====>--..", found)
        self.assertIn("=>===>>--", coming([strip], 4, Machine.of_lines("-.=>", ["-"])))


class Schemes(Case):
    def test_first_coming_against_a_slow_search(self):
        none = some_line = 0
        for seed in range(160):
            scheme, rules, parts, size = some(seed)
            width = random.Random(seed).randrange(1, 5)
            found = first_coming(scheme, width)
            depth = len(parts.marks)
            wanted = None
            for line in brute.lines_up_to(parts.signs, size):
                if parts.lets(line) and any(parts.taken(each, depth) for each in told.broken(rules, width, line)):
                    wanted = line
                    break
            if wanted is None and found is not None:
                self.assertGreater(len(found), size)
                self.assertTrue(parts.lets(found))
                self.assertTrue(any(parts.taken(each, depth) for each in told.broken(rules, width, found)))
            else:
                self.assertEqual(found, wanted, seed)
            none, some_line = none + (found is None), some_line + (found is not None)
        self.assertGreater(none, 5)
        self.assertGreater(some_line, 20)

    def test_first_coming_by_hand(self):
        self.assertEqual(first_coming(Scheme(READER, [SAME], "whole"), 2), "---")
        self.assertEqual(first_coming(Scheme(READER, [SAME], "start"), 2), "->--")
        self.assertEqual(first_coming(Scheme(READER, [SAME], "none"), 2), "--")
        self.assertIsNone(first_coming(Scheme(READER, [SAME], "part"), 2))
        self.assertIsNone(first_coming(Scheme(READER, [SAME], "whole"), 1))
        self.assertEqual(first_coming(width=2, scheme=Scheme(READER, [STRIP], "any")), "---")
        self.assertEqual(first_coming(Scheme(READER, [SAME], "any"), 4), "------")

    def test_first_coming_where_any_bars_by_all_signs(self):
        # What any sign is taken from bars if it ends with the mark, or with the mark and the tail.
        strip_any = Relay("ab", [("front", "a", ""), ("front", "b", "")])
        scheme = Scheme(Reader("ab", ["aa"], "b"), [strip_any], "any")
        self.assertEqual(first_coming(scheme, 2), "aaba")
        self.assertEqual(first_coming(scheme, 3), "aaba")
        self.assertIsNone(first_coming(scheme, 1))
        self.assertEqual(first_longer(scheme, 2), ("aba", 0))

    def test_right_numbers(self):
        grow = Relay("->a", [("whole", ">", ">>>")])
        scheme = Scheme(READER, [grow, STRIP], "none")
        self.assertIs(are_numbers_right(scheme, 1), False)
        self.assertEqual(first_longer(scheme, 1), (">", 1))
        self.assertEqual(first_longer(scheme, 2), (">", 1))
        self.assertEqual(first_longer(scheme, 3), ("----", 0))
        self.assertEqual(first_longer(width=4, scheme=scheme), ("-----", 0))
        self.assertIs(first_longer(scheme, 4).__class__, tuple)
        # Without long lines: by the sight start each line that begins with a sign bars by any.
        every = Reader("ab", ["a", "b"], "a", sight="start")
        for look in ("start", "any"):
            few = Scheme(every, [Relay("ab", [])], look)
            for width in (1, 2, 3, 4):
                self.assertIs(are_numbers_right(few, width), True)
                self.assertIsNone(first_longer(few, width))
        longer = Scheme(every, [Relay("ab", [("whole", "", "ba")])], "start")
        self.assertEqual([first_longer(longer, width) for width in (1, 2, 3)], [("", 1), None, None])
        self.assertEqual([are_numbers_right(longer, width=width) for width in (1, 2, 3)], [False, True, True])
        self.assertIsNone(first_longer(Scheme(every, longer.relays(), "any"), 1))

    def test_against_growing_lines(self):
        found = 0
        for seed in range(150):
            source = random.Random(seed)
            rules = [brute.random_rules(source, "ab", 3, 3) for _ in range(2)]
            marks = source.sample(["a", "b", "aa", "ab", "ba"], 2)
            look = source.choice(["none", "whole", "start", "start", "part", "part", "any"])
            reader = Reader("ab", marks, source.choice(["a", "b"]), sight=source.choice(["whole", "start"]))
            scheme = Scheme(reader, [Relay("ab", each) for each in rules], look)
            width = source.randrange(1, 5)
            wanted = None
            for line in brute.lines_up_to("ab", width + 1):
                if scheme.lets(line):
                    ends = [number for each, number in self.short(rules, line, width).items() if len(each) > width]
                    if ends:
                        wanted = line, min(ends)
                        break
            longer = first_longer(scheme, width)
            self.assertIs(are_numbers_right(scheme, width), longer is None)
            if wanted is None and longer is not None:
                self.assertGreater(len(longer[0]), width + 1)
                self.assertEqual(longer[1], 0)
            else:
                self.assertEqual(longer, wanted, seed)
            found = found + (longer is not None)
        self.assertGreater(found, 50)
        self.assertLess(found, 148)

    def short(self, rules, line, width):
        """The lines that come of the line by turns of lines that are not longer, with the least number of turns."""
        found, layer = {line: 0}, [line]
        while layer:
            layer = [each for each in layer if len(each) <= width]
            new = {}
            for each in layer:
                for relay in rules:
                    behind = brute.turned(relay, each)
                    if behind not in found:
                        new[behind] = found[behind] = found[each] + 1
            layer = list(new)
        return found

    def test_most_steps(self):
        # Each line of at most four signs becomes the next one, and the last one a longer one.
        lines = brute.lines_up_to("-.=>", 4)
        walk = Relay("-.=>", [("whole", one, other) for one, other in zip(lines, lines[1:] + [">>>>>"])])
        scheme = Scheme(Reader("-.=>", ["--"], ">"), [walk], "none")
        self.assertEqual(len(lines), 341)
        self.assertEqual(first_longer(scheme, 4), ("", 341))
        self.assertEqual(first_longer(scheme, 3), ("", 85))


class Ways(Case):
    def test_ways_that_are_found(self):
        for seed in range(120):
            source = random.Random(seed)
            rules, relays = some_relays(source, "ab")
            machine, width = some_machine(source, "ab"), source.randrange(1, 5)
            line = "".join(source.choice("ab") for _ in range(source.randrange(10)))
            for way, end in self.ways(rules, width, line).items():
                self.assertIs(is_coming_way(relays, width, line, machine, list(way)), end in machine)
            self.assertEqual(line in coming(relays, width, machine),
                             any(end in machine for end in self.ways(rules, width, line).values()))

    def ways(self, rules, width, line):
        """A way to each line that comes of the line, and the line."""
        found, todo, met = {(): line}, [()], {line}
        for way in todo:
            each = found[way]
            steps = [(number, brute.turned(relay, each)) for number, relay in enumerate(rules)]
            steps += [(("piece", number), piece) for number, piece in enumerate(told.pieces(each, width))]
            for step, new in steps:
                if new not in met:
                    met.add(new)
                    found[way + (step,)] = new
                    todo.append(way + (step,))
        return found

    def test_by_hand(self):
        def look(line, value, width=2, relays=(STRIP,)):
            return is_coming_way(relays, width, line, MARK, value)
        self.assertIs(look("--", []), True)
        self.assertIs(look("--", ()), True)
        self.assertIs(look("a--", []), False)
        self.assertIs(look(">>--", [0, 0]), True)
        self.assertIs(look(">>--", [0, ("piece", 1)]), False)
        self.assertIs(look(">>--", (("piece", 1),)), True)
        self.assertIs(look("a>>--", [("piece", 1)]), False)
        self.assertIs(look(">a>--", [0, ("piece", 1)]), True)
        self.assertIs(look(">a>--a", [("piece", 1), 0]), False)
        self.assertIs(look("a>>--", [("piece", 1), 0, ("piece", 0)], 4), False)
        self.assertIs(look("aaaa>--", [("piece", 1), 0, ("piece", 0)], 4), True)
        # Short lines have one piece.
        self.assertIs(look("--", [("piece", 0), ("piece", 0)]), True)
        self.assertIs(look("--", [("piece", 1)]), False)
        self.assertIs(look("a>--", [("piece", 1)]), True)
        for number in (2, 3, 10 ** 29):
            self.assertIs(look("a>--", [("piece", number)]), False)
            self.assertIs(look("--", [("piece", number), 0]), False)
        self.assertIs(is_coming_way(value=[0], machine=MARK, line=">--", width=4, relays=[STRIP]), True)
        self.assertIs(is_coming_way([STRIP], 1, ">" * 2000 + "--", MARK, [0] * 2000), True)

    def test_other_values(self):
        def look(value):
            return is_coming_way([STRIP, SAME], 2, ">--", MARK, value)
        self.assertIs(look([0, 1]), True)
        for value in STRANGE + ["", "0", 0, ("piece", 0), (0, "piece"), AlwaysEqual()]:
            self.assertIs(look(value), False)
        for step in STRANGE + [
            "", "0", 2, -1, 10 ** 29, "piece", [], (), [0], (0,), ["piece", 0], ("piece",), ("piece", 0, 0), (0, "piece"),
            ("Piece", 0), ("pieces", 0), (b"piece", 0), ("piece", -1), ("piece", True), ("piece", False), ("piece", "0"),
            ("piece", None), (AlwaysEqual(), 0), ("piece", AlwaysEqual()), AlwaysEqual(), (("piece",), 0),
        ]:
            self.assertIs(look([step]), False)
            self.assertIs(look([0, step]), False)
            self.assertIs(look((0, 1, step, 0)), False)
            self.assertIs(is_coming_way([STRIP], 2, "--", MARK, [("piece", 0), step]), False)
