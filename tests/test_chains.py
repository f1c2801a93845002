"""What chains tell, held against a slow search through chains and lines."""

import random
import types

from frontlines import chains
from frontlines.chains import (
    after,
    after_one,
    before,
    before_one,
    chain_to,
    is_barrier,
    is_chain,
    is_closed,
    steps,
    turned,
    walked,
)
from frontlines.machines import Machine
from frontlines.relays import Relay
from tests import brute, slow
from tests.cases import STRANGE, AlwaysEqual, Case

STRIP = Relay("->a", [("front", ">", "")])
QUOTE = Relay("->a", [("front", "-", ">-"), ("front", ">", ">>")])
SAME = Relay("->a", [])
SWAP = Relay("->a", [("front", "-", "a"), ("front", "a", "-")])
MARK = Machine.of_lines("->a", ["--"])


def some_machine(source, signs):
    if source.random() < 0.4:
        lines = ["".join(source.choice(signs) for _ in range(source.randrange(4))) for _ in range(2)]
        return Machine.of_lines(signs, lines)
    return Machine(signs, *brute.random_form(source, signs, source.randrange(1, 6)))


class One(Case):
    """One relay, once."""

    def test_before_one(self):
        for seed in range(150):
            source = random.Random(seed)
            signs = source.choice(["ab", "->a", "-.=>"])
            rules = brute.random_rules(source, signs, 5, 3)
            machine = some_machine(source, signs)
            found = before_one(Relay(signs, rules), machine)
            self.assertIs(found.__class__, Machine)
            for line in brute.lines_up_to(signs, 5 if len(signs) < 4 else 4):
                self.assertEqual(line in found, brute.turned(rules, line) in machine, (seed, line))

    def test_after_one(self):
        for seed in range(150):
            source = random.Random(seed)
            signs = source.choice(["ab", "->a"])
            rules = brute.random_rules(source, signs, 5, 3)
            machine = some_machine(source, signs)
            found = after_one(Relay(signs, rules), machine)
            # No rule takes more than three signs away, so all that become lines of at most four signs are gone through.
            came = {brute.turned(rules, line) for line in brute.lines_up_to(signs, 7) if line in machine}
            for line in brute.lines_up_to(signs, 4):
                self.assertEqual(line in found, line in came, (seed, line))

    def test_by_hand(self):
        self.assertEqual(before_one(STRIP, MARK), Machine.of_lines("->a", ["--", ">--"]))
        self.assertEqual(after_one(STRIP, Machine.of_lines("->a", [">--", "-", ">>"])),
                         Machine.of_lines("->a", ["--", "-", ">"]))
        self.assertEqual(before_one(QUOTE, MARK), Machine.nothing("->a"))
        self.assertEqual(after_one(QUOTE, MARK), Machine.of_lines("->a", [">--"]))

    def test_all_and_none(self):
        for relay in (STRIP, QUOTE, SAME, SWAP):
            self.assertEqual(before_one(relay, Machine.every("->a")), Machine.every("->a"))
            self.assertEqual(before_one(relay, Machine.nothing("->a")), Machine.nothing("->a"))
            self.assertEqual(after_one(relay, Machine.nothing("->a")), Machine.nothing("->a"))
        self.assertEqual(after_one(STRIP, Machine.every("->a")), Machine.every("->a"))
        lost = Machine.beginning("->a", "-") | Machine.beginning("->a", ">a") | Machine.of_lines("->a", [">"])
        self.assertEqual(after_one(QUOTE, Machine.every("->a")), -lost)

    def test_relays_that_change_nothing(self):
        for relay in (SAME, Relay("->a", [("front", "-", "-"), ("whole", "a", "a"), ("front", "", "")])):
            for machine in (MARK, Machine.every("->a"), Machine.nothing("->a"), Machine.having("->a", "a-")):
                self.assertEqual(before_one(relay, machine), machine)
                self.assertEqual(after_one(relay, machine), machine)


class AnyChain(Case):
    """Any number of some relays."""

    def some(self, seed, growing):
        source = random.Random(seed)
        signs = source.choice(["ab", "->a"])
        make = brute.random_rules if growing else slow.shrinking_rules
        rules = [make(source, signs, 4, source.choice([1, 2, 3])) for _ in range(source.randrange(1, 4))]
        return signs, rules, [Relay(signs, each) for each in rules], some_machine(source, signs)

    def test_shrinking_relays(self):
        for seed in range(120):
            signs, rules, relays, machine = self.some(seed, False)
            known = before(relays, machine)
            for line in brute.lines_up_to(signs, 5 if signs == "ab" else 4):
                wanted = slow.steps(rules, line, lambda each: each in machine)
                self.assertEqual(steps(relays, line, machine), wanted, (seed, line))
                self.assertEqual(line in known, wanted is not None, (seed, line))
                chain = chain_to(relays, line, machine)
                self.assertEqual(None if chain is None else len(chain), wanted)
                if chain is not None:
                    self.assertIs(chain.__class__, list)
                    self.assertIn(brute.turned_by_all([rules[number] for number in chain], line), machine)

    def test_growing_relays(self):
        for seed in range(1000, 1100):
            signs, rules, relays, machine = self.some(seed, True)
            known = before(relays, machine)
            self.assertTrue(machine.is_within(known))
            for line in brute.lines_up_to(signs, 4 if signs == "ab" else 3):
                number = steps(relays, line, machine)
                self.assertEqual(number is not None, line in known)
                if number is None:
                    # Lines that are never told to be before the machine only become such lines.
                    for each in slow.reached(rules, line, 3):
                        self.assertNotIn(each, known)
                    continue
                near = slow.reached(rules, line, min(number, 6))
                self.assertEqual([each for each, far in near.items() if far < min(number, 6) and each in machine], [])
                chain = chain_to(relays, line, machine)
                self.assertEqual(len(chain), number)
                self.assertIn(brute.turned_by_all([rules[place] for place in chain], line), machine)

    def test_after(self):
        for seed in range(2000, 2080):
            signs, rules, relays, machine = self.some(seed, True)
            known = after(relays, machine)
            self.assertTrue(machine.is_within(known))
            for line in brute.lines_up_to(signs, 4 if signs == "ab" else 3):
                if line in machine:
                    self.assertTrue(all(each in known for each in slow.reached(rules, line, 4)))
                if line in known:
                    self.assertTrue(all(each in known for each in slow.reached(rules, line, 1)))
                    origin = (before(relays, Machine.of_lines(signs, [line])) & machine).first_line()
                    self.assertIsNotNone(origin, (seed, line))
                    chain = chain_to(relays, origin, Machine.of_lines(signs, [line]))
                    self.assertEqual(brute.turned_by_all([rules[place] for place in chain], origin), line)

    def test_after_by_shrinking_relays(self):
        # Each of these takes one sign away at most, so that all lines from which short ones come by few turns are met.
        for rules in ([[("front", "a", "")]], [[("front", "a", "")], [("front", "b", "a")]], [[("whole", "ab", "b")]]):
            relays = [Relay("ab", each) for each in rules]
            machine = Machine.of_lines("ab", ["aab", "bb", "ab", "babab"])
            came = set()
            for line in machine.first_lines(9):
                came |= set(slow.reached(rules, line))
            self.assertEqual(after(relays, machine), Machine.of_lines("ab", sorted(came)))

    def test_one_line_at_a_time(self):
        machine = before([STRIP], MARK)
        self.assertEqual(machine, Machine("->a", [(1, 0, 3), (2, 3, 3), (3, 3, 3), (3, 3, 3)], [2]))
        self.assertEqual(after([STRIP], Machine.of_lines("->a", [">>a", ">-"])),
                         Machine.of_lines("->a", [">>a", ">a", "a", ">-", "-"]))
        self.assertEqual(before([STRIP, QUOTE], MARK), machine)
        self.assertEqual(before([QUOTE], MARK), MARK)

    def test_all_and_none(self):
        for relays in ([STRIP], [QUOTE, SAME], [SAME], [STRIP, QUOTE, SWAP]):
            for call in (before, after):
                self.assertEqual(call(relays, Machine.every("->a")), Machine.every("->a"))
                self.assertEqual(call(relays, Machine.nothing("->a")), Machine.nothing("->a"))
            self.assertEqual(steps(relays, ">-a", Machine.every("->a")), 0)
            self.assertEqual(chain_to(relays, ">-a", Machine.every("->a")), [])
            self.assertIsNone(steps(relays, ">-a", Machine.nothing("->a")))
            self.assertIsNone(chain_to(relays, ">-a", Machine.nothing("->a")))

    def test_relays_that_change_nothing(self):
        for relays in ([SAME], [SAME, Relay("->a", [("front", "a-", "a-")]), SAME]):
            for machine in (MARK, Machine.having("->a", "a-"), Machine.longer("->a", 3)):
                self.assertEqual(before(relays, machine), machine)
                self.assertEqual(after(relays, machine), machine)
                self.assertTrue(is_closed(relays, machine))
                self.assertEqual([steps(relays, line, machine) for line in ("--", "a-", "----")],
                                 [0 if line in machine else None for line in ("--", "a-", "----")])

    def test_the_same_relay_several_times(self):
        self.assertEqual(before([STRIP] * 5, MARK), before([STRIP], MARK))
        chain = chain_to([SAME, STRIP, STRIP], ">>--", MARK)
        self.assertEqual((len(chain), turned([SAME, STRIP, STRIP], ">>--", chain)), (2, "--"))

    def test_a_relay_that_helps_another_one(self):
        relays = [Relay("ab", [("whole", "ab", "ba")]), Relay("ab", [("front", "b", "")])]
        self.assertEqual(steps(relays, "ab", Machine.of_lines("ab", ["a"])), 2)
        self.assertEqual(chain_to(relays, "ab", Machine.of_lines("ab", ["a"])), [0, 1])
        self.assertIsNone(steps(relays, "aba", Machine.of_lines("ab", ["a"])))
        self.assertEqual(before(relays, Machine.of_lines("ab", ["a"])).first_lines(5), ["a", "ab", "ba", "bab", "bba"])

    def test_many_steps(self):
        for many in (1, 7, 100, 199, 200, 201, 500, 900):
            line = ">" * many + "--"
            self.assertEqual(steps([STRIP], line, MARK), many)
            self.assertEqual(steps([SAME, STRIP], line, MARK), many)
            if many <= 200:
                self.assertEqual(chain_to([SAME, STRIP], line, MARK), [1] * many)

    def test_steps_one_by_one(self):
        relays = [STRIP, Relay("->a", [("front", ">>>", "")]), Relay("->a", [("front", "a", ">>>>>")])]
        for many in range(30):
            self.assertEqual(steps(relays, ">" * many + "--", MARK), many // 3 + many % 3)
        self.assertEqual(steps(relays, "a--", MARK), 4)
        self.assertEqual(steps(relays, "a>--", MARK), 3)
        self.assertEqual(steps(relays, "aa--", MARK), 8)

    def test_long_lines(self):
        line = ">" * 150 + "-" * 19000
        machine = Machine.tailed("->a", "", "-")
        self.assertEqual(steps([STRIP], line, machine), 150)
        self.assertEqual(chain_to([STRIP], line, machine), [0] * 150)
        self.assertIsNone(steps([STRIP], line + "a", machine))


class Turned(Case):
    def test_turned(self):
        relays = [STRIP, QUOTE]
        self.assertEqual(turned(relays, "-", []), "-")
        self.assertEqual(turned(relays, "-", [1, 1, 0]), ">-")
        self.assertEqual(turned(relays, "-", (1, 1, 0)), ">-")
        self.assertEqual(turned(tuple(relays), "", [0, 1]), "")
        for seed in range(50):
            source = random.Random(seed)
            rules = [brute.random_rules(source, "->a", 4, 3) for _ in range(3)]
            chain = [source.randrange(3) for _ in range(source.randrange(8))]
            line = "".join(source.choice("->a") for _ in range(source.randrange(6)))
            found = turned([Relay("->a", each) for each in rules], line, chain)
            self.assertEqual(found, brute.turned_by_all([rules[number] for number in chain], line))

    def test_walked(self):
        self.assertEqual(list(walked([STRIP, QUOTE], "-", [1, 1, 0])), ["-", ">-", ">>-", ">-"])
        self.assertEqual(list(walked((STRIP, QUOTE), "a", ())), ["a"])
        self.assertEqual(list(walked(relays=[SAME], line="", chain=[0, 0])), ["", "", ""])

    def test_walked_is_a_generator(self):
        found = walked([STRIP], ">>", [0, 0])
        self.assertIsInstance(found, types.GeneratorType)
        self.assertEqual([next(found), next(found), next(found), next(found, None)], [">>", ">", "", None])

    def test_two_walks_side_by_side(self):
        one, other = walked([STRIP], ">>-", [0, 0]), walked([QUOTE], ">>-", [0])
        self.assertEqual([next(one), next(other), next(one), next(other)], [">>-", ">>-", ">-", ">>>-"])


class Proofs(Case):
    def test_is_chain(self):
        relays = [STRIP, QUOTE]
        for value in ([0, 0], (0, 0), [1, 0, 0, 0], [0, 1, 0, 0], [0, 0, 0]):
            self.assertIs(is_chain(relays, ">>--", MARK, value), True)
        for value in ([0], [], [0, 0, 1], [1], [0, 2], [0, -1], [True, 0], [False, False], [0, None], "00", "", 0, 2,
                      [[0], 0], {0: 0}, [0, 0, 5], ["0", "0"], AlwaysEqual(), [AlwaysEqual()] * 2, *STRANGE):
            self.assertIs(is_chain(relays, ">>--", MARK, value), False, value)
        self.assertIs(is_chain(relays, "--", MARK, []), True)
        self.assertIs(is_chain(relays=relays, line="--", machine=MARK, value=()), True)

    def test_is_chain_of_any_length(self):
        self.assertIs(is_chain([STRIP], ">" * 1000 + "--", MARK, [0] * 1000), True)
        self.assertIs(is_chain([STRIP], ">" * 1000 + "--", MARK, [0] * 999), False)

    def test_is_closed(self):
        self.assertIs(is_closed([STRIP], MARK), False)
        self.assertIs(is_closed([QUOTE], MARK), True)
        self.assertIs(is_closed([QUOTE, STRIP], MARK), False)
        self.assertIs(is_closed([STRIP], Machine.beginning("->a", ">")), True)
        self.assertIs(is_closed([STRIP], Machine.beginning("->a", "-")), False)
        self.assertIs(is_closed([STRIP], Machine.every("->a")), True)
        self.assertIs(is_closed([STRIP, QUOTE, SWAP], Machine.nothing("->a")), True)

    def test_closed_by_going_through_lines(self):
        for seed in range(150):
            source = random.Random(seed)
            rules = [brute.random_rules(source, "ab", 2, 2) for _ in range(source.randrange(1, 3))]
            relays = [Relay("ab", each) for each in rules]
            machine = some_machine(source, "ab")
            # A line that shows that the machine is not closed has no more signs than states, and those of a rule.
            open_lines = [line for line in brute.lines_up_to("ab", 8) if line not in machine
                          and any(brute.turned(each, line) in machine for each in rules)]
            self.assertIs(is_closed(relays, machine), not open_lines, seed)
            self.assertTrue(is_closed(relays, before(relays, machine)))

    def test_is_barrier(self):
        known = before([STRIP], MARK)
        every, larger = Machine.every("->a"), known | Machine.having("->a", "a")
        self.assertIs(is_barrier([STRIP], "a--", MARK, known), True)
        self.assertIs(is_barrier([STRIP], "-", MARK, larger), True)
        # It accepts the line; is not closed; does not accept the mark.
        self.assertIs(is_barrier([STRIP], "a", MARK, larger), False)
        self.assertIs(is_barrier([STRIP], "a--", MARK, every), False)
        self.assertIs(is_barrier([STRIP], "a--", MARK, Machine.of_lines("->a", ["--", ">--"])), False)
        self.assertIs(is_barrier([STRIP], "a--", MARK, Machine.nothing("->a")), False)
        self.assertIs(is_barrier(relays=[STRIP], line="a", machine=MARK, value=known), True)

    def test_barriers_of_another_kind(self):
        for value in [before([Relay("-a", [])], Machine.nothing("-a")), "", [], 0, AlwaysEqual(), STRIP, *STRANGE]:
            self.assertIs(is_barrier([STRIP], "a--", MARK, value), False)

    def test_just_the_lines_that_are_not_before_have_one(self):
        for seed in range(40):
            source = random.Random(seed)
            relays = [Relay("ab", brute.random_rules(source, "ab", 3, 2)) for _ in range(2)]
            machine = some_machine(source, "ab")
            known = before(relays, machine)
            for line in brute.lines_up_to("ab", 3):
                self.assertIs(is_barrier(relays, line, machine, known), line not in known)


class Names(Case):
    def test_by_name(self):
        given = {"relays": [STRIP], "machine": MARK}
        self.assertEqual(before(**given), before([STRIP], MARK))
        self.assertEqual(after(**given), after([STRIP], MARK))
        self.assertEqual(before_one(machine=MARK, relay=STRIP), before_one(STRIP, MARK))
        self.assertEqual(after_one(machine=MARK, relay=STRIP), after_one(STRIP, MARK))
        self.assertEqual(steps(**given, line=">--"), 1)
        self.assertEqual(chain_to(**given, line=">--"), [0])
        self.assertEqual(turned(relays=(STRIP,), line=">--", chain=(0,)), "--")
        self.assertIs(is_closed(**given), False)

    def test_steps_that_may_be_told(self):
        self.assertEqual(chains.MOST_STEPS, 10 ** 30)
