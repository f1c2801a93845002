"""What schemes tell, held against a slow search on small schemes, and their errors and limits."""

import random
from itertools import product

from frontlines.errors import InvalidLine, InvalidLook, InvalidRelays, InvalidRole, OtherSigns, TooMany
from frontlines.machines import Machine
from frontlines.readers import Reader
from frontlines.relays import Relay
from frontlines.schemes import Scheme
from tests import brute, slow
from tests.cases import AlwaysEqual, Case
from tests.test_chain_errors import BAD_RELAYS, code, doubling
from tests.test_machine_errors import BAD_LINES
from tests.test_readers import BAD_ROLES
from tests.test_relay_limits import many_rules
from tests.test_writer_errors import BAD_LOOKS, far_sign

STRIP = Relay("->a", [("front", ">", "")])
QUOTE = Relay("->a", [("front", "-", ">-"), ("front", ">", ">>")])
SAME = Relay("->a", [])
SAME_AB = Relay("ab", [])
READER = Reader("->a", ["--"], ">")
PAIR = Reader("->a", ["--", "->"], ">")
STEPS = {"what": "steps", "limit": 10 ** 30}


def some(seed, depth=2, many=3):
    """A small scheme, the rules of its relays, and how it is told slowly."""
    source = random.Random(seed)
    signs = source.choice(["ab", "->a"])
    lines = [line for line in brute.lines_up_to(signs, 2) if line]
    marks = source.sample(lines, source.randrange(1, depth + 1))
    tail = source.choice(lines[:len(signs) + 2])
    sight, order = source.choice(["whole", "whole", "start", *signs]), source.choice(["inner", "outer"])
    rules = [slow.shrinking_rules(source, signs, 2, 3) for _ in range(source.randrange(1, many + 1))]
    look = source.choice(slow.LOOKS)
    scheme = Scheme(Reader(signs, marks, tail, sight=sight, order=order), [Relay(signs, each) for each in rules], look)
    return scheme, rules, slow.Told(signs, marks, tail, sight, order, rules, look), 5 if signs == "ab" else 4


class Plain(Case):
    def test_properties(self):
        scheme = Scheme(PAIR, [STRIP, QUOTE], "part")
        self.assertEqual((scheme.reader, scheme.look, scheme.signs), (PAIR, "part", "->a"))
        self.assertEqual(scheme.relays(), [STRIP, QUOTE])
        self.assertIs(scheme.relays().__class__, list)
        self.assertEqual(Scheme(look="part", relays=(STRIP, QUOTE), reader=PAIR), scheme)

    def test_repr(self):
        self.assertEqual(repr(Scheme(READER, (STRIP, SAME), "any")), "Scheme(Reader('->a', ['--'], '>', sight='whole', "
                         "order='inner', further='refuse', finish='refuse'), [Relay('->a', [('front', '>', '')]), "
                         "Relay('->a', [])], 'any')")

    def test_equal(self):
        one = Scheme(READER, [STRIP], "any")
        self.assertTrue(one == Scheme(Reader("->a", ("--",), ">"), (Relay("->a", [("front", ">", "")]),), "any"))
        self.assertFalse(one != Scheme(READER, [STRIP], "any"))
        for other in (Scheme(PAIR, [STRIP], "any"), Scheme(READER, [SAME], "any"), Scheme(READER, [STRIP] * 2, "any"),
                      Scheme(READER, [STRIP], "part"), READER, [STRIP], "any", None, 1, repr(one)):
            self.assertTrue(one != other)
            self.assertFalse(one == other)


class Wrong(Case):
    def test_relays(self):
        for value, position in BAD_RELAYS:
            self.fails(InvalidRelays, {"position": position}, Scheme, READER, value, "any")
            self.fails(InvalidRelays, {"position": position}, Scheme, look=None, relays=value, reader=READER)

    def test_look(self):
        for value in BAD_LOOKS:
            self.fails(InvalidLook, {"value": value}, Scheme, READER, [STRIP], value)
            self.fails(InvalidLook, {"value": value}, Scheme, look=value, relays=[Relay("ab", [])], reader=READER)

    def test_other_signs(self):
        self.fails(OtherSigns, {"one": "->a", "other": "ab"}, Scheme, READER, [Relay("ab", [])], "any")
        self.fails(OtherSigns, {"one": "ab", "other": "->a"}, Scheme, Reader("ab", ["a"], "b"), [STRIP, STRIP], "none")
        self.fails(OtherSigns, {"one": "ab", "other": "ac"}, Scheme, Reader("ab", ["a"], "b"), [Relay("ac", [])], "any")

    def test_line(self):
        for look in slow.LOOKS:
            scheme = Scheme(READER, [STRIP], look)
            for value in BAD_LINES + [AlwaysEqual()]:
                self.fails(InvalidLine, {"value": value}, scheme.lets, value)
                self.fails(InvalidLine, {"value": value}, scheme.lets, line=value)

    def test_role(self):
        scheme = Scheme(PAIR, [STRIP], "any")
        for value in BAD_ROLES + [("next", 3)]:
            self.fails(InvalidRole, {"value": value}, scheme.is_kept, value)
            self.fails(InvalidRole, {"value": value}, scheme.is_kept, role=value)
        self.assertIs(scheme.is_kept(role=("end", 2)), True)


class Let(Case):
    def test_against_lines(self):
        for seed in range(120):
            scheme, _, told, size = some(seed)
            barred = scheme.barred()
            self.assertIs(barred.__class__, Machine)
            for line in brute.lines_up_to(told.signs, size):
                self.assertIs(scheme.lets(line), told.lets(line), (seed, line))
                self.assertEqual(line in barred, not told.lets(line), (seed, line))

    def test_lines_of_roles_of_any_length(self):
        reader = Reader("->a", ["-" * 12], ">>>")
        for look, wanted in (("none", True), ("whole", False), ("start", False), ("part", False), ("any", False)):
            scheme = Scheme(reader, [STRIP], look)
            self.assertIs(scheme.lets("-" * 12 + ">>>"), wanted)
            self.assertEqual("-" * 12 + ">>>" in scheme.barred(), not wanted)
            self.assertIs(scheme.lets("-" * 12), wanted)
            self.assertIs(scheme.lets("-" * 12 + ">"), look in ("none", "whole", "any"))
        self.assertIs(Scheme(reader, [STRIP], "any").lets(">>" + "-" * 12 + ">>>"), False)

    def test_barred_has_the_limit_of_machines(self):
        reader = Reader(">ab", [">"], "a")
        self.fails(TooMany, {"what": "states", "limit": 300}, Scheme(reader, far_sign(12), "any").barred)
        self.assertIs(Scheme(reader, far_sign(12), "any").lets("b" * 30), True)
        self.assertIs(Scheme(reader, far_sign(12), "any").lets("b" * 30 + "a" * 13), False)
        self.assertIs(Scheme(reader, far_sign(12), "any").is_clear(), True)
        self.assertEqual(Scheme(reader, far_sign(12), "part").barred(), Machine.having(">ab", ">"))


class Faults(Case):
    def test_against_lines(self):
        sound = 0
        for seed in range(250):
            scheme, rules, told, size = some(seed)
            found = scheme.faults()
            wanted = told.faults(rules, size)
            if found[-1:] != wanted[-1:]:
                # The least let line is too long for the search: it is looked at by itself.
                word, line, number = found.pop()
                self.assertEqual(word, "body")
                self.assertGreater(len(line), size)
                self.assertTrue(told.lets(line))
                last = len(told.marks)
                self.assertEqual(number, slow.steps(rules, line, lambda each: told.taken(each, last) is not None))
            self.assertEqual(found, wanted, seed)
            found = scheme.faults()
            self.assertEqual(scheme.first_fault(), found[0] if found else None)
            faulty = [role for role, _, _ in found]
            for role in scheme.reader.roles():
                self.assertIs(scheme.is_kept(role), role not in faulty)
            self.assertIs(scheme.is_clear(), "body" not in faulty)
            self.assertIs(scheme.is_sound(), not found)
            sound = sound + (not found)
        self.assertGreater(sound, 20)
        self.assertLess(sound, 230)

    def test_kinds(self):
        scheme = Scheme(PAIR, [QUOTE, STRIP], "none")
        self.assertIs(scheme.faults().__class__, list)
        for fault in scheme.faults():
            self.assertIs(fault.__class__, tuple)
        self.assertEqual(scheme.faults(), [
            (("next", 1), "--", 1), (("end", 1), "-->", 1), (("next", 2), "->", 1), (("end", 2), "->>", 1),
            ("body", "--", 0)])
        self.assertEqual(scheme.first_fault(), (("next", 1), "--", 1))
        self.assertIs(scheme.first_fault().__class__, tuple)

    def test_sound_and_not(self):
        self.assertIs(Scheme(READER, [STRIP], "any").is_sound(), True)
        self.assertEqual(Scheme(READER, [STRIP], "any").faults(), [])
        self.assertIsNone(Scheme(READER, [STRIP], "any").first_fault())
        self.assertIs(Scheme(READER, [STRIP], "part").is_sound(), True)
        self.assertIs(Scheme(READER, [STRIP], "start").is_clear(), False)
        self.assertEqual(Scheme(READER, [STRIP], "start").faults(), [("body", ">--", 1)])
        self.assertEqual(Scheme(READER, [STRIP], "none").first_fault(), ("body", "--", 0))
        self.assertIs(Scheme(READER, [QUOTE], "any").is_clear(), True)

    def test_a_line_that_is_lost_at_once(self):
        reader = Reader("->a", ["-", "->"], ">", order="outer")
        self.assertEqual(Scheme(reader, [SAME], "any").faults(), [(("next", 2), "->", 0)])
        inner = reader.with_care("order", "inner")
        self.assertEqual(Scheme(inner, [SAME], "any").faults(), [])

    def test_taken_for_another_role(self):
        # The mark becomes that of the level around it, which is looked for behind it, or ahead of it.
        swap = Relay("ab", [("whole", "bb", "a")])
        reader = Reader("ab", ["a", "bb"], "b")
        self.assertEqual(Scheme(reader, [swap], "any").faults(), [(("next", 2), "bb", 1)])
        self.assertIs(Scheme(reader, [swap], "any").is_kept(("next", 1)), True)
        # A role is kept if it is taken while no further level is open, whatever an inner one would take it for.
        ends = Reader("ab", ["a", "ab"], "b")
        self.assertEqual(Scheme(ends, [Relay("ab", [])], "any").faults(), [])
        self.assertIs(Scheme(ends, [Relay("ab", [])], "any").is_kept(("end", 1)), True)

    def test_roles_are_kept_by_what_is_seen(self):
        grow = Relay("->a", [("front", "--", "--a")])
        for sight, faults in (("whole", 2), ("start", 1), ("a", 1)):
            scheme = Scheme(READER.with_care("sight", sight), [grow], "any")
            self.assertEqual(len(scheme.faults()), faults, sight)

    def test_the_body_fault_is_of_lines_taken_at_all_levels(self):
        relay = Relay("->a", [("whole", "a", "->")])
        self.assertEqual(Scheme(PAIR, [relay], "whole").faults(), [("body", "a", 1)])
        self.assertEqual(Scheme(READER, [relay], "whole").faults(), [])

    def test_growing_relays(self):
        for seed in range(100):
            source = random.Random(seed)
            rules = [brute.random_rules(source, "ab", 3, 2) for _ in range(2)]
            relays = [Relay("ab", each) for each in rules]
            reader = Reader("ab", ["ab", "b"], "a", sight=source.choice(["whole", "start"]))
            told = slow.Told("ab", ["ab", "b"], "a", reader.sight, "inner", rules, "part")
            for role, line, number in Scheme(reader, relays, "part").faults():
                near = slow.reached(rules, line, min(number, 6))
                if role == "body":
                    self.assertTrue(told.lets(line))
                    ends = [far for each, far in near.items() if told.taken(each, 2) is not None]
                else:
                    ends = [far for each, far in near.items() if told.taken(each, role[1]) != role]
                self.assertEqual(min(ends, default=7), number if number <= 6 else 7, seed)


class Sets(Case):
    def test_by_hand(self):
        scheme = Scheme(READER, [STRIP, QUOTE, SAME], "part")
        self.assertEqual(scheme.sound_sets(), [(0, 2)])
        self.assertEqual(Scheme(READER, [STRIP, QUOTE, SAME], "whole").sound_sets(), [(2,)])
        self.assertEqual(Scheme(READER, [STRIP, SAME, STRIP], "any").sound_sets(), [(0, 1, 2)])
        self.assertEqual(Scheme(READER, [STRIP], "none").sound_sets(), [])
        self.assertEqual(Scheme(READER, [QUOTE], "whole").sound_sets(), [()])

    def test_sound_by_each_alone_only(self):
        relays = [Relay("ab", [("whole", "aa", "ab")]), Relay("ab", [("whole", "ab", "b")])]
        reader = Reader("ab", ["b"], "bb")
        self.assertEqual(Scheme(reader, relays, "whole").sound_sets(), [(0,)])
        self.assertEqual(Scheme(Reader("ab", ["bb"], "a"), [
            Relay("ab", [("whole", "a", "b")]), Relay("ab", [("whole", "b", "bb")]), SAME_AB], "start").sound_sets(),
            [(0, 2)])
        self.assertEqual(Scheme(Reader("ab", ["ab"], "b"), [
            Relay("ab", [("whole", "ab", "ab"), ("whole", "bab", "aab")]), Relay("ab", [("whole", "aab", "ab")]),
        ], "start").sound_sets(), [(0,)])

    def test_what_the_look_bars_stays(self):
        # By any, all relays of the scheme bar; so a set of some of them is clear, too.
        scheme = Scheme(READER, [STRIP, QUOTE, SAME], "any")
        self.assertEqual(scheme.sound_sets(), [(0, 2)])

    def test_against_lines(self):
        for seed in range(500, 580):
            scheme, rules, told, size = some(seed, depth=1, many=5)
            sound = [numbers for numbers in slow.subsets(len(rules))
                     if not told.faults([rules[number] for number in numbers], size)]
            longest = max([len(fault[1]) for fault in scheme.faults()], default=0)
            if longest <= size:
                self.assertEqual(scheme.sound_sets(), slow.largest(sound), seed)


class Steps(Case):
    """Steps that are too many to be told."""

    def test_of_the_body(self):
        for many, limit in ((90, False), (150, True)):
            relay = Relay("-.=>", doubling(198).rules()[:-1] + [("whole", code(0), "."), ("front", code(0), "")])
            lose = Relay("-.=>", [("whole", "..", "-")])
            start = Relay("-.=>", [("whole", "", code(many))])
            reader = Reader("-.=>", ["."], ".")
            clear = Scheme(reader, [relay, start], "whole")
            self.assertEqual((clear.is_sound(), clear.is_clear(), clear.is_kept(("next", 1))), (False, False, True))
            both = Scheme(reader, [relay, start, lose], "whole")
            # The first fault is that of a role, though the body's steps may be too many.
            self.assertEqual(both.first_fault(), (("end", 1), "..", 1))
            self.assertEqual(both.sound_sets(), [(1,)])
            if limit:
                for call in (clear.faults, clear.first_fault, both.faults):
                    self.fails(TooMany, STEPS, call)
            else:
                self.assertEqual(clear.faults(), [("body", "", 2 ** 91)])
                self.assertEqual(clear.first_fault(), ("body", "", 2 ** 91))
                self.assertEqual(both.faults(), [(("end", 1), "..", 1), ("body", "", 2 ** 91)])

    def test_of_a_later_role(self):
        # The end's line is seen at the start all the way, until all that was put behind it is taken away.
        rules = [("front", ".." + old, ".." + new) for _, old, new in doubling(150).rules()]
        lose = Relay("-.=>", [("whole", ".", "="), ("whole", "..-", "=")])
        reader = Reader("-.=>", ["."], ".", sight="start")
        for many, limit in ((40, False), (97, False), (99, True), (150, True)):
            put = Relay("-.=>", [("whole", "..", ".." + code(many) + "-")])
            scheme = Scheme(reader, [Relay("-.=>", rules), put, lose], "any")
            self.assertEqual(scheme.first_fault(), (("next", 1), ".", 1))
            self.assertIs(scheme.is_kept(("end", 1)), False)
            self.assertEqual(scheme.sound_sets(), [(0, 1)])
            if limit:
                self.fails(TooMany, STEPS, scheme.faults)
            else:
                self.assertEqual(scheme.faults()[1], (("end", 1), "..", 2 ** (many + 1) + 1))

    def test_large_tables(self):
        scheme = Scheme(Reader("-.=>", ["--", "=="], ">"), [Relay("-.=>", many_rules())], "part")
        self.assertEqual(scheme.first_fault(), (("next", 1), "--", 1))
        self.assertEqual(scheme.faults()[-1], ("body", "", 2))


class SideBySide(Case):
    def test_two_schemes_with_the_same_reader(self):
        loose, tight = Scheme(READER, [STRIP], "whole"), Scheme(READER, [STRIP, QUOTE], "any")
        for _ in range(2):
            self.assertEqual((loose.faults(), tight.faults()), (
                [("body", ">--", 1)], [(("next", 1), "--", 1), (("end", 1), "-->", 1)]))
            self.assertEqual((loose.lets(">--"), tight.lets(">--")), (True, False))
            self.assertEqual((loose.barred().states, tight.barred().states), (5, 5))
            self.assertEqual((loose.reader, tight.reader), (READER, READER))

    def test_relays_in_another_sequence(self):
        for one, other in product(([STRIP, QUOTE], [SAME, STRIP]), ("part", "any")):
            there, back = Scheme(PAIR, one, other), Scheme(PAIR, one[::-1], other)
            self.assertEqual(there.faults(), back.faults())
            self.assertEqual(there.barred(), back.barred())
