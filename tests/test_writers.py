"""What writers tell, held against a slow look at all short lines."""

import random
from itertools import product

from frontlines.machines import Machine
from frontlines.relays import Relay
from frontlines.writers import Writer, safe_looks
from tests import brute, slow
from tests.cases import Case

STRIP = Relay("->a", [("front", ">", "")])
QUOTE = Relay("->a", [("front", "-", ">-"), ("front", ">", ">>")])
SAME = Relay("->a", [])
LINES = {"ab": brute.lines_up_to("ab", 5), "->a": brute.lines_up_to("->a", 4)}


def some(seed):
    """Signs, rules that make no line longer, and their relays."""
    source = random.Random(seed)
    signs = source.choice(["ab", "->a"])
    rules = [slow.shrinking_rules(source, signs, 4, 3) for _ in range(source.randrange(1, 4))]
    return source, signs, rules, [Relay(signs, each) for each in rules]


def some_marks(source, signs, many, size):
    lines = [line for line in brute.lines_up_to(signs, size) if line]
    return source.sample(lines, many)


class Plain(Case):
    def test_properties(self):
        for sight, look in product(["whole", "start", "-", ">", "a"], slow.LOOKS):
            writer = Writer([STRIP, QUOTE], sight, look)
            self.assertEqual((writer.signs, writer.sight, writer.look), ("->a", sight, look))
            self.assertEqual(writer.relays(), [STRIP, QUOTE])
            self.assertIs(writer.relays().__class__, list)
            self.assertEqual(repr(writer), "Writer([Relay('->a', [('front', '>', '')]), Relay('->a', [('front', '-', "
                             f"'>-'), ('front', '>', '>>')])], {sight!r}, {look!r})")

    def test_by_name_and_tuples(self):
        self.assertEqual(Writer(look="any", sight="-", relays=(STRIP,)), Writer([STRIP], "-", "any"))
        self.assertEqual(repr(Writer((STRIP,), "whole", "any")),
                         "Writer([Relay('->a', [('front', '>', '')])], 'whole', 'any')")

    def test_equal(self):
        one = Writer([STRIP], "whole", "any")
        self.assertTrue(one == Writer([Relay("->a", [("front", ">", "")])], "whole", "any"))
        self.assertFalse(one != Writer((STRIP,), "whole", "any"))
        for other in (Writer([STRIP, STRIP], "whole", "any"), Writer([QUOTE], "whole", "any"),
                      Writer([STRIP], "start", "any"), Writer([STRIP], "whole", "part"),
                      Writer([Relay("->b", [])], "whole", "any"), None, 1, "Writer", [STRIP], STRIP, repr(one)):
            self.assertTrue(one != other)
            self.assertFalse(one == other)

    def test_the_sequence_of_relays_counts(self):
        self.assertNotEqual(Writer([STRIP, SAME], "whole", "any"), Writer([SAME, STRIP], "whole", "any"))


class Machines(Case):
    def test_seen(self):
        for signs in ("ab", "->a"):
            for sight, mark in product([*slow.SIGHTS, *signs], [line for line in LINES[signs] if 0 < len(line) < 4]):
                found = Writer([Relay(signs, [])], sight, "none").seen(mark)
                self.assertIs(found.__class__, Machine)
                for line in LINES[signs]:
                    self.assertEqual(line in found, slow.sees(sight, mark, line))

    def test_barred_by_plain_looks(self):
        for signs in ("ab", "->a"):
            for look, mark in product(slow.LOOKS[:-1], [line for line in LINES[signs] if 0 < len(line) < 4]):
                writer = Writer([Relay(signs, [("front", signs[0], "")])], "whole", look)
                found = writer.barred(mark)
                self.assertIs(found.__class__, Machine)
                for line in LINES[signs]:
                    self.assertEqual(line in found, slow.bars(look, mark, line, [], "whole"))
                    self.assertEqual(writer.lets(mark, [line]), line not in found)

    def test_barred_by_any(self):
        for seed in range(60):
            source, signs, rules, relays = some(seed)
            sight = source.choice([*slow.SIGHTS, *signs])
            mark = some_marks(source, signs, 1, 2)[0]
            writer = Writer(relays, sight, "any")
            found = writer.barred(mark)
            for line in LINES[signs]:
                wanted = slow.bars("any", mark, line, rules, sight)
                self.assertEqual(line in found, wanted, (seed, line))
                self.assertEqual(writer.lets(mark, [line]), not wanted)

    def test_marks_of_12_signs(self):
        for mark in ("a", "-" * 12, "->a->a->a->a"):
            for sight, look in product(["whole", "start", "a"], slow.LOOKS):
                writer = Writer([STRIP], sight, look)
                self.assertIn(mark, writer.seen(mark))
                self.assertEqual(mark in writer.barred(mark), look != "none")
                self.assertEqual(writer.lets(mark, [mark]), look == "none")

    def test_tails_of_the_sign_that_the_mark_has(self):
        writer = Writer([STRIP], "-", "any")
        self.assertEqual(writer.seen("--").first_lines(3), ["--", "---", "----"])
        self.assertEqual(writer.barred("--").first_lines(4), ["--", "---", ">--", "----"])


class Safe(Case):
    def test_against_lines(self):
        for seed in range(120):
            source, signs, rules, relays = some(seed)
            sight = source.choice([*slow.SIGHTS, *signs])
            mark = some_marks(source, signs, 1, 2)[0]
            safe = []
            for look in slow.LOOKS:
                found = Writer(relays, sight, look).first_unsafe(mark)
                near = slow.first_unsafe(signs, rules, mark, sight, look, 4)
                if near is None and found is not None:
                    self.assertGreater(len(found[0]), 4, seed)
                    number = slow.steps(rules, found[0], lambda each: slow.sees(sight, mark, each))
                    self.assertEqual(found[1], number)
                    self.assertFalse(slow.bars(look, mark, found[0], rules, sight))
                else:
                    self.assertEqual(found, near, (seed, look))
                self.assertIs(Writer(relays, sight, look).is_safe(mark), found is None)
                safe.extend([look] if found is None else [])
            self.assertEqual(safe_looks(relays, mark, sight), safe)
            self.assertEqual(safe[-1:], ["any"])

    def test_by_hand(self):
        self.assertEqual(Writer([STRIP], "whole", "none").first_unsafe("--"), ("--", 0))
        self.assertEqual(Writer([STRIP], "start", "whole").first_unsafe("--"), ("---", 0))
        self.assertEqual(Writer([STRIP], "start", "start").first_unsafe("--"), (">--", 1))
        self.assertEqual(Writer([STRIP], "a", "whole").first_unsafe("--"), ("--a", 0))
        self.assertIsNone(Writer([STRIP], "start", "part").first_unsafe("--"))
        self.assertEqual(safe_looks([QUOTE], "--", "whole"), ["whole", "start", "part", "any"])
        self.assertEqual(safe_looks([QUOTE], "--", "start"), ["start", "part", "any"])
        self.assertEqual(safe_looks([Relay("->a", [("front", ">", "-")])], "--", "whole"), ["any"])
        self.assertEqual(safe_looks(sight="-", mark="-", relays=(SAME,)), ["start", "part", "any"])

    def test_lines_that_become_longer(self):
        put = Relay("->a", [("front", "", "-")])
        self.assertEqual(Writer([put], "whole", "whole").first_unsafe("---"), ("", 3))
        self.assertEqual(Writer([put], "whole", "part").first_unsafe("---"), ("", 3))
        self.assertEqual(Writer([put, STRIP], "whole", "any").barred("---").first_lines(6),
                         ["", "-", ">", "--", ">-", ">>"])

    def test_the_least_line_is_told_not_that_of_the_fewest_steps(self):
        slowly = [Relay("ab", [("whole", "b", "bb"), ("whole", "bb", "bbb"), ("whole", "bbb", "a")]),
                  Relay("ab", [("whole", "aa", "a")])]
        self.assertEqual(Writer(slowly, "whole", "whole").first_unsafe("a"), ("b", 3))

    def test_steps_of_the_least_line(self):
        rules = [("whole", ">" * at, ">" * (at - 1)) for at in range(2, 40)] + [("whole", ">", "--")]
        self.assertEqual(Writer([Relay("->a", rules)], "whole", "none").first_unsafe("--"), (">", 1))
        rules = [("whole", ">" * at, ">" * (at + 1)) for at in range(39)] + [("whole", ">" * 39, "--")]
        self.assertEqual(Writer([Relay("->a", rules)], "whole", "whole").first_unsafe("--"), ("", 40))
        far = Writer([Relay("->a", [("front", "aaa", "-")])], "start", "part")
        self.assertEqual(far.first_unsafe("-" * 12), ("aaa" + "-" * 11, 1))


class Sets(Case):
    def test_by_hand(self):
        dash = Relay("->a", [("front", ">", "-")])
        writer = Writer([STRIP, SAME, dash, QUOTE], "whole", "part")
        self.assertEqual(writer.safe_sets("--"), [(0, 1, 3)])
        self.assertEqual(writer.unsafe_sets("--"), [(2,)])
        writer = Writer([STRIP, SAME, dash, QUOTE], "whole", "whole")
        self.assertEqual(writer.safe_sets("--"), [(1, 3)])
        self.assertEqual(writer.unsafe_sets("--"), [(0,), (2,)])

    def test_relays_that_are_unsafe_together_only(self):
        relays = [Relay("ab", [("whole", "a", "b")]), Relay("ab", [("whole", "b", "bb")]), Relay("ab", [])]
        writer = Writer(relays, "whole", "part")
        self.assertEqual(writer.safe_sets("bb"), [(0, 2)])
        relays[1] = Relay("ab", [("whole", "bb", "bbb"), ("whole", "b", "bbb")])
        relays.append(Relay("ab", [("whole", "a", "bb")]))
        writer = Writer(relays, "whole", "start")
        self.assertEqual(writer.first_unsafe("bbb"), ("a", 2))
        self.assertEqual(writer.unsafe_sets("bbb"), [(1,)])
        writer = Writer([Relay("ab", [("whole", "a", "ba")]), Relay("ab", [("whole", "ba", "bb")])], "whole", "part")
        self.assertEqual((writer.safe_sets("bb"), writer.unsafe_sets("bb")), ([(0,)], [(1,)]))
        parts = [Relay("ab", [("whole", "aa", "ab")]), Relay("ab", [("whole", "ab", "b")])]
        writer = Writer(parts, "whole", "part")
        self.assertEqual(writer.first_unsafe("b"), ("aa", 2))
        self.assertEqual((writer.safe_sets("b"), writer.unsafe_sets("b")), ([(0,), (1,)], [(0, 1)]))

    def test_unsafe_under_no_relays(self):
        for look, sight in (("none", "whole"), ("whole", "start"), ("whole", "-"), ("none", "a")):
            writer = Writer([STRIP, SAME], sight, look)
            self.assertEqual((writer.safe_sets("--"), writer.unsafe_sets("--")), ([], [()]))

    def test_safe_under_all(self):
        for look in ("part", "any"):
            writer = Writer([STRIP, SAME, QUOTE, STRIP, SAME], "whole", look)
            self.assertEqual((writer.safe_sets("--"), writer.unsafe_sets("--")), ([(0, 1, 2, 3, 4)], []))

    def test_any_bars_by_all_relays(self):
        dash = Relay("->a", [("front", ">", "-")])
        for relays in ([dash], [dash, STRIP, QUOTE]):
            writer = Writer(relays, "start", "any")
            self.assertEqual(writer.safe_sets("--"), [tuple(range(len(relays)))])
            self.assertEqual(writer.unsafe_sets("--"), [])

    def test_against_lines(self):
        for seed in range(60):
            source = random.Random(seed)
            many = source.choice([2, 2, 3, 4, 5])
            rules = [slow.shrinking_rules(source, "ab", 2, 2) for _ in range(many)]
            sight, look = source.choice(["whole", "start", "a", "b"]), source.choice(slow.LOOKS)
            mark = some_marks(source, "ab", 1, 2)[0]
            writer = Writer([Relay("ab", each) for each in rules], sight, look)
            safe = []
            for numbers in slow.subsets(many):
                given = [rules[number] for number in numbers]
                # With rules and marks of two signs, a short line shows that a look is not safe.
                if slow.first_unsafe("ab", given, mark, sight, look, 5, barring=rules) is None:
                    safe.append(numbers)
            self.assertEqual(writer.safe_sets(mark), slow.largest(safe), seed)
            self.assertEqual(writer.unsafe_sets(mark), slow.least_others(many, safe), seed)


class Bodies(Case):
    def test_lets(self):
        writer = Writer([STRIP], "whole", "part")
        self.assertIs(writer.lets("--", []), True)
        self.assertIs(writer.lets("--", ()), True)
        self.assertIs(writer.lets("--", ["a", "-", ""]), True)
        self.assertIs(writer.lets("--", ("a", "-", "a--a", "")), False)
        self.assertIs(writer.lets(body=["--"], mark="--"), False)
        self.assertIs(Writer([STRIP], "whole", "none").lets("--", ["--"]), True)
        self.assertIs(Writer([STRIP], "whole", "any").lets("--", ["a", ">>>--"]), False)
        self.assertIs(Writer([STRIP], "whole", "any").lets("--", ["a", "a--", "-->"]), True)

    def test_choice(self):
        for look, wanted in (("none", "a"), ("whole", "-"), ("start", ">"), ("part", None), ("any", "-")):
            writer = Writer([QUOTE], "whole", look)
            self.assertEqual(writer.choice(["a", "-", ">"], ["a", "->a", "--"]), wanted)
            self.assertEqual(writer.choice(("a", "-"), []), "a")
            self.assertEqual(writer.choice(body=(), marks=("-", "a")), "-")
        self.assertIsNone(Writer([STRIP], "whole", "any").choice(["a", "-"], [">a", ">>-"]))

    def test_choice_goes_by_the_menu(self):
        for seed in range(40):
            source, signs, rules, relays = some(seed)
            look, sight = source.choice(slow.LOOKS), source.choice(["whole", "start", signs[0]])
            marks = some_marks(source, signs, source.randrange(1, 6), 2)
            body = [source.choice(LINES[signs]) for _ in range(source.randrange(5))]
            writer = Writer(relays, sight, look)
            let = [mark for mark in marks if not any(slow.bars(look, mark, line, rules, sight) for line in body)]
            self.assertEqual(writer.choice(marks, body), let[0] if let else None)
            self.assertEqual([mark for mark in marks if writer.lets(mark, body)], let)


class Menus(Case):
    def sort(self, marks, line, rules, sight, look):
        return tuple(place for place, mark in enumerate(marks) if slow.bars(look, mark, line, rules, sight))

    def test_sorts(self):
        for seed in range(80):
            source, signs, rules, relays = some(seed)
            look, sight = source.choice(slow.LOOKS), source.choice(["whole", "start", signs[0]])
            marks = some_marks(source, signs, source.randrange(1, 6 if signs == "ab" else 4), 2)
            found = Writer(relays, sight, look).sorts(marks)
            wanted = {}
            for line in LINES[signs]:
                wanted.setdefault(self.sort(marks, line, rules, sight, look), line)
            size = 5 if signs == "ab" else 4
            self.assertEqual([each for each in found if len(each[1]) <= size], list(wanted.items()), seed)
            self.assertEqual([line for _, line in found], sorted([line for _, line in found], key=brute.order))
            self.assertEqual(len({sort for sort, _ in found}), len(found))
            for sort, line in found:
                self.assertEqual(sort, self.sort(marks, line, rules, sight, look))

    def test_sorts_with_long_least_lines(self):
        writer = Writer([STRIP], "whole", "part")
        self.assertEqual(writer.sorts(["-" * 12, ">>"])[-1], ((0, 1), "-" * 12 + ">>"))
        self.assertEqual(writer.sorts(marks=("a",)), [((), ""), ((0,), "a")])
        self.assertEqual(Writer([STRIP], "whole", "none").sorts(["a", "-"]), [((), "")])

    def test_no_line_that_bars_no_mark(self):
        put = Relay("ab", [("front", "", "a")]), Relay("ab", [("front", "b", ""), ("front", "a", "")])
        writer = Writer(put, "start", "any")
        self.assertEqual(writer.sorts(["a", "aa"]), [((0, 1), "")])
        self.assertEqual(writer.least_full_body(["a", "aa"]), [""])
        self.assertEqual(writer.count_let(["a", "aa"], 3), 0)

    def test_least_full_body(self):
        for seed in range(60):
            source = random.Random(seed)
            rules = [slow.shrinking_rules(source, "ab", 3, 2) for _ in range(2)]
            look, sight = source.choice(slow.LOOKS[1:]), source.choice(["whole", "start", "a"])
            marks = some_marks(source, "ab", source.randrange(1, 4), 2)
            writer = Writer([Relay("ab", each) for each in rules], sight, look)
            bodies = []
            sorts = {line: self.sort(marks, line, rules, sight, look) for line in brute.lines_up_to("ab", 4)}
            lines = [line for line, sort in sorts.items() if sort]
            for many in range(1, len(marks) + 1):
                for body in product(lines, repeat=many):
                    if len({place for line in body for place in sorts[line]}) == len(marks):
                        bodies.append(list(body))
                if bodies:
                    break
            wanted = min(bodies, key=lambda body: [brute.order(line) for line in body])
            self.assertEqual(writer.least_full_body(marks), wanted, seed)
            self.assertIsNone(writer.choice(marks, wanted))

    def test_least_full_body_by_hand(self):
        part = Writer([STRIP], "whole", "part")
        self.assertEqual(part.least_full_body(["--", "->", "a"]), ["-->a"])
        self.assertEqual(part.least_full_body(("a" * 12, "-" * 12, ">" * 12)), ["-" * 12 + ">" * 12 + "a" * 12])
        start = Writer([STRIP], "whole", "start")
        self.assertEqual(start.least_full_body(["a", "-", "--", "aa"]), ["--", "aa"])
        self.assertEqual(start.least_full_body(["a", ">", "-", "->", ">>"]), ["a", "->", ">>"])
        self.assertEqual(Writer([STRIP], "whole", "whole").least_full_body(["a", "-", ">", "aa", "--"]),
                         ["-", ">", "a", "--", "aa"])
        self.assertIsNone(Writer([STRIP], "whole", "none").least_full_body(["a"]))

    def test_the_first_line_counts_most(self):
        # Two lines are needed; "b" is the least line that may be the first one, though "aa" bars as much as the other.
        writer = Writer([Relay("ab", [("whole", "bab", "aa"), ("whole", "aa", "bb")])], "whole", "any")
        self.assertEqual(writer.sorts(["aa", "bb", "b"]), [((), ""), ((2,), "b"), ((0, 1), "aa"), ((1,), "bb")])
        self.assertEqual(writer.least_full_body(["aa", "bb", "b"]), ["b", "aa"])
        self.assertEqual(writer.least_full_body(["bb", "aa"]), ["aa"])

    def test_count_let(self):
        for seed in range(60):
            source, signs, rules, relays = some(seed)
            look, sight = source.choice(slow.LOOKS), source.choice(["whole", "start", signs[-1]])
            marks = some_marks(source, signs, source.randrange(1, 4), 2)
            writer = Writer(relays, sight, look)
            for size in range(5):
                wanted = [line for line in LINES[signs] if len(line) == size
                          and not self.sort(marks, line, rules, sight, look)]
                self.assertEqual(writer.count_let(marks, size), len(wanted), seed)

    def test_count_let_of_many_signs(self):
        self.assertEqual(Writer([STRIP], "whole", "none").count_let(["-"], 400), 3 ** 400)
        self.assertEqual(Writer([STRIP], "whole", "whole").count_let(["-" * 12], 400), 3 ** 400)
        self.assertEqual(Writer([STRIP], "whole", "start").count_let(["-"], size=400), 2 * 3 ** 399)
        self.assertEqual(Writer([STRIP], "whole", "part").count_let(marks=("-", ">"), size=400), 1)
        self.assertEqual(Writer([STRIP], "whole", "any").count_let(["-"], 400), 3 ** 400 - 1)
        self.assertEqual(Writer([STRIP], "start", "any").count_let(["-"], 0), 1)
