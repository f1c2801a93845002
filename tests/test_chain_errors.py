"""The errors and limits of chains: which values are not valid, which error comes first, and what has no limit."""

import random

from frontlines.chains import (
    after,
    after_one,
    before,
    before_one,
    chain_to,
    is_barrier,
    is_chain,
    is_closed,
    steps,
    turned,
    walked,
)
from frontlines.errors import InvalidChain, InvalidLine, InvalidRelays, OtherSigns, TooMany
from frontlines.machines import Machine
from frontlines.relays import Relay
from tests import brute
from tests.cases import STRANGE, AlwaysEqual, Case
from tests.test_machine_errors import BAD_LINES
from tests.test_relay_limits import many_rules

STRIP = Relay("->a", [("front", ">", "")])
OTHER = Relay("ab", [])
MARK = Machine.of_lines("->a", ["--"])
FAR = Machine.every("ab")
STATES = {"what": "states", "limit": 300}
# What may stand where relays are passed, and the position that is told.
BAD_RELAYS = [(value, None) for value in STRANGE + ["", "ab", 0, 1, [], (), [STRIP] * 6, (STRIP,) * 7, STRIP, MARK]] + [
    ([value], 0) for value in STRANGE + ["", 0, [], [STRIP], MARK, AlwaysEqual()]
] + [
    ([STRIP, value], 1) for value in STRANGE + ["", 0, [], [STRIP], MARK, AlwaysEqual(), OTHER]
] + [
    ((STRIP, STRIP, OTHER, None), 2), ([STRIP] * 4 + [OTHER], 4), ([OTHER, STRIP, None], 1), ([None, OTHER], 0),
    ([STRIP, STRIP, None, OTHER], 2),
]
BAD_CHAINS = [(value, None) for value in STRANGE + ["", "0", 0, 1, AlwaysEqual()]] + [
    ([value], 0) for value in STRANGE + [1, -1, 5, "", "0", [], [0], (0,), 10 ** 29, AlwaysEqual()]
] + [
    ((0, 0, value, 7), 2) for value in STRANGE + [1, -1, "0", [0], AlwaysEqual()]
]


def with_line(relays, line, machine=MARK):
    """A call for each function that is handed relays, a line and a machine."""
    return [
        lambda: steps(relays, line, machine), lambda: chain_to(relays, line, machine),
        lambda: is_chain(relays, line, machine, []), lambda: is_barrier(relays, line, machine, machine),
        lambda: steps(line=line, machine=machine, relays=relays),
        lambda: chain_to(machine=machine, line=line, relays=relays),
        lambda: is_chain(value=None, machine=machine, line=line, relays=relays),
        lambda: is_barrier(value=None, machine=machine, line=line, relays=relays),
    ]


def with_chain(relays, line, chain):
    """A call for each function that is handed relays, a line and a chain."""
    return [
        lambda: turned(relays, line, chain), lambda: turned(chain=chain, line=line, relays=relays),
        lambda: next(walked(relays, line, chain)), lambda: list(walked(chain=chain, line=line, relays=relays)),
    ]


def without_line(relays, machine=MARK):
    """A call for each function that is handed relays and a machine."""
    return [
        lambda: before(relays, machine), lambda: after(relays, machine), lambda: is_closed(relays, machine),
        lambda: before(machine=machine, relays=relays), lambda: after(machine=machine, relays=relays),
        lambda: is_closed(machine=machine, relays=relays),
    ]


class Wrong(Case):
    def test_relays(self):
        for value, position in BAD_RELAYS:
            told = {"position": position}
            for call in without_line(value) + with_line(value, "-") + with_chain(value, "-", []):
                self.fails(InvalidRelays, told, call)

    def test_relays_come_first(self):
        for value, position in (([], None), ([STRIP, None], 1), ([STRIP, OTHER], 1), (None, None)):
            told = {"position": position}
            for call in without_line(value, FAR) + with_line(value, None, FAR) + with_chain(value, 7, None):
                self.fails(InvalidRelays, told, call)

    def test_right_relays(self):
        for relays in ([STRIP], (STRIP,), [STRIP] * 5, (STRIP, Relay("->a", [])), [Relay("->a", [])] * 5):
            for call in without_line(relays) + with_line(relays, "-") + with_chain(relays, "-", [0]):
                call()

    def test_line(self):
        for value in BAD_LINES + [AlwaysEqual()]:
            for call in with_line([STRIP], value) + with_chain([STRIP], value, [0]):
                self.fails(InvalidLine, {"value": value}, call)

    def test_line_comes_before_signs_and_chain(self):
        for call in with_line([STRIP], "b", FAR) + with_chain([STRIP], "b", [5]):
            self.fails(InvalidLine, {"value": "b"}, call)

    def test_line_by_the_signs_of_the_relays(self):
        for call in with_line([STRIP], "->", FAR) + with_line([STRIP], "a", FAR):
            self.fails(OtherSigns, {"one": "->a", "other": "ab"}, call)

    def test_chain(self):
        for value, position in BAD_CHAINS:
            for call in with_chain([STRIP], "->", value):
                self.fails(InvalidChain, {"position": position}, call)
        for call in with_chain([STRIP] * 3, "->", [0, 1, 2, 3, 9]):
            self.fails(InvalidChain, {"position": 3}, call)

    def test_walked_has_its_errors_before_its_first_line(self):
        def begun():
            for line in walked([STRIP], ">", [0, 0, 1]):
                self.fail(line)
        self.fails(InvalidChain, {"position": 2}, begun)

    def test_other_signs(self):
        told = {"one": "->a", "other": "ab"}
        for call in without_line([STRIP, STRIP], FAR) + with_line([STRIP], "", FAR):
            self.fails(OtherSigns, told, call)
        back = {"one": "ab", "other": "->a"}
        for call in without_line([OTHER]) + with_line([OTHER], "b"):
            self.fails(OtherSigns, back, call)
        for call in (before_one, after_one):
            self.fails(OtherSigns, told, call, STRIP, FAR)
            self.fails(OtherSigns, told, call, machine=FAR, relay=STRIP)
            self.fails(OtherSigns, back, call, OTHER, MARK)
        self.fails(OtherSigns, {"one": "ab", "other": "ac"}, before, [OTHER], Machine.every("ac"))


def sure(signs, states):
    """A machine of just so many states."""
    return Machine.longer(signs, states - 2)


def sign_from_the_end(size):
    """The lines of "a" and so many signs behind it; what strips any sign makes more lines such, with 2 ** states."""
    rows = [(1, size + 2)] + [(at + 1, at + 1) for at in range(1, size + 1)] + [(size + 2, size + 2)] * 2
    return Machine("ab", rows, [size + 1])


STRIP_ANY = Relay("ab", [("front", "a", ""), ("front", "b", "")])


class Limits(Case):
    def test_300_states(self):
        most = sure("->a", 300)
        same = Relay("->a", [("front", "-", "-")])
        for call in (lambda: before([same], most), lambda: after([same], most), lambda: before_one(same, most),
                     lambda: after_one(same, most)):
            self.assertEqual(call(), most)
            self.assertEqual(call().states, 300)

    def test_one_sign_more_or_less(self):
        line, longer = "-" * 298, "-" * 297
        strip, put = Relay("->a", [("front", ">", "")]), Relay("->a", [("front", "-", ">-")])
        self.assertEqual(Machine.of_lines("->a", [line]).states, 300)
        self.fails(TooMany, STATES, after_one, put, Machine.of_lines("->a", [line]))
        self.assertEqual(after_one(put, Machine.of_lines("->a", [longer])).states, 300)
        self.assertEqual(before([strip], Machine.of_lines("->a", [line])).states, 300)
        self.assertEqual(before_one(strip, Machine.of_lines("->a", [longer])), Machine.of_lines("->a", [
            longer, ">" + longer]))
        self.fails(TooMany, STATES, before_one, strip, Machine.of_lines("->a", [">" + longer]))
        self.fails(TooMany, STATES, after, [put], Machine.of_lines("->a", [line]))

    def test_far_more_states(self):
        for size in range(1, 8):
            self.assertEqual(before([STRIP_ANY], sign_from_the_end(size)).states, 2 ** (size + 1))
        for size in (8, 9, 20, 50, 290):
            self.fails(TooMany, STATES, before, [STRIP_ANY], sign_from_the_end(size))
            self.fails(TooMany, STATES, before, relays=[STRIP_ANY, STRIP_ANY], machine=sign_from_the_end(size))
        # Backwards it is the other way round: first any signs, then "a" and so many signs.
        put = Relay("ab", [("front", "", "a")]), Relay("ab", [("front", "", "b")])
        self.assertEqual(after(put, sign_from_the_end(7)).states, 256)
        self.fails(TooMany, STATES, after, put, sign_from_the_end(40))

    def test_few_states_of_a_large_machine(self):
        for seed in range(8):
            source = random.Random(seed)
            rows, ends = brute.random_form(source, "ab", 250)
            rows[0] = (1, 2)
            others = [end for end in ends if end > 2]
            self.assertEqual(before([STRIP_ANY], Machine("ab", rows, [0] + others)), Machine.every("ab"))
            some = Machine("ab", rows, [1, 2] + others)
            self.assertEqual(before([STRIP_ANY], some), Machine.longer("ab", 0))
            self.assertTrue(is_closed([STRIP_ANY], Machine.longer("ab", 0)))

    def test_without_a_limit(self):
        machine = sign_from_the_end(200)
        line = "b" * 50 + "a" * 201
        self.fails(TooMany, STATES, before, [STRIP_ANY], machine)
        self.assertEqual(steps([STRIP_ANY], line, machine), 50)
        self.assertEqual(chain_to([STRIP_ANY], line, machine), [0] * 50)
        self.assertIsNone(steps([STRIP_ANY], "a" * 200, machine))
        self.assertIs(is_chain([STRIP_ANY], line, machine, [0] * 50), True)
        self.assertIs(is_closed([STRIP_ANY], machine), False)
        self.assertIs(is_barrier([STRIP_ANY], "a" * 200, machine, Machine.longer("ab", 200)), True)
        self.assertIs(is_barrier([STRIP_ANY], "a" * 200, machine, Machine.longer("ab", 199)), False)
        self.assertEqual(len(turned([Relay("ab", [("front", "", "a" * 40)])], "", [0] * 300)), 12000)
        self.assertEqual(turned([STRIP_ANY], line, [0] * 251), "")
        self.assertEqual(len(list(walked([STRIP_ANY], line, [0] * 1000))), 1001)

    def test_large_tables(self):
        relay = Relay("-.=>", many_rules())
        machine = Machine.of_lines("-.=>", ["--"])
        self.assertEqual(before_one(relay, machine), Machine.of_lines("-.=>", ["-"]))
        self.assertEqual(after_one(relay, machine), Machine.of_lines("-.=>", ["---"]))
        self.assertEqual(before([relay], machine), Machine.of_lines("-.=>", ["", "-", "--"]))
        self.assertEqual(chain_to([relay], "", machine), [0, 0])
        self.assertIs(is_closed([relay], Machine.longer("-.=>", 3)), False)


def doubling(many):
    """A relay that takes n away by as many steps as 2 ** (n + 1) - 1: code(n) becomes code(n - 1) twice, code(0) none."""
    rules = [("front", code(at), code(at - 1) * 2) for at in range(1, many + 1)]
    return Relay("-.=>", rules + [("front", code(0), "")])


def code(number):
    """Six signs for a number."""
    return ">" + "".join("-.="[number // 3 ** at % 3] for at in range(4, -1, -1))


class ManySteps(Case):
    NONE = Machine.of_lines("-.=>", [""])

    def test_steps(self):
        for many in (1, 2, 3, 10, 50, 98):
            self.assertEqual(steps([doubling(many)], code(many), self.NONE), 2 ** (many + 1) - 1)

    def test_more_than_may_be_told(self):
        told = {"what": "steps", "limit": 10 ** 30}
        self.assertLess(2 ** 99 - 1, 10 ** 30)
        for many in (99, 100, 150, 198):
            self.fails(TooMany, told, steps, [doubling(many)], code(many), self.NONE)
            self.fails(TooMany, told, steps, machine=self.NONE, line=code(many), relays=(doubling(198),))

    def test_just_as_many_as_may_be_told(self):
        relay = doubling(98)
        # The numbers of the line are those of the powers of two in it, each with one step more.
        rest, line = 10 ** 30, ""
        for at in range(98, -1, -1):
            while rest >= 2 ** (at + 1) - 1:
                rest, line = rest - 2 ** (at + 1) + 1, line + code(at)
        self.assertEqual(rest, 0)
        self.assertEqual(steps([relay], line, self.NONE), 10 ** 30)
        self.fails(TooMany, {"what": "steps", "limit": 10 ** 30}, steps, [relay], line + code(0), self.NONE)

    def test_chain_of_200(self):
        line = ">" * 200 + "--"
        self.assertEqual(chain_to([STRIP], line, MARK), [0] * 200)
        told = {"what": "steps", "limit": 200}
        self.fails(TooMany, told, chain_to, [STRIP], ">" + line, MARK)
        self.fails(TooMany, told, chain_to, machine=MARK, line=">" * 900 + "--", relays=[STRIP])
        self.fails(TooMany, told, chain_to, [doubling(7)], code(7), self.NONE)
        self.fails(TooMany, told, chain_to, [doubling(150)], code(150), self.NONE)
        chain = chain_to([doubling(6)], code(6), self.NONE)
        self.assertEqual(chain, [0] * 127)
        self.assertIsNone(chain_to([doubling(150)], "-" + code(150), self.NONE))

    def test_other_functions_do_not_tell_steps(self):
        relay = doubling(150)
        self.assertIn(code(150), before([relay], self.NONE))
        self.assertIs(is_closed([relay], before([relay], self.NONE)), True)
        self.assertIs(is_barrier([relay], code(150), self.NONE, Machine.every("-.=>")), False)

    def test_errors_come_before_limits(self):
        self.fails(InvalidLine, {"value": "b"}, steps, [doubling(150)], "b", self.NONE)
        self.fails(OtherSigns, {"one": "-.=>", "other": "ab"}, chain_to, [doubling(150)], code(150), FAR)
