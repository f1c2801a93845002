"""Where machines would be too large, and where it does not matter how large something is on the way."""

import random

from frontlines.errors import TooMany
from frontlines.machines import Machine
from tests.cases import Case

STATES = {"what": "states", "limit": 300}


def cycle(signs, sign, many, ends):
    """The lines with as many of the sign as one of the ends, but for a multiple of many."""
    rows = [tuple((at + 1) % many if each == sign else at for each in signs) for at in range(many)]
    return Machine(signs, rows, ends)


class Makers(Case):
    def test_beginning(self):
        self.assertEqual(Machine.beginning("ab", "ab" * 149).states, 300)
        self.fails(TooMany, STATES, Machine.beginning, "ab", "ab" * 149 + "a")
        self.fails(TooMany, STATES, Machine.beginning, "->a", "-" * 20000)

    def test_having(self):
        self.assertEqual(Machine.having("ab", "ab" * 149 + "a").states, 300)
        self.fails(TooMany, STATES, Machine.having, "ab", "ab" * 150)
        self.fails(TooMany, STATES, Machine.having, "ab", "ab" * 10000)

    def test_tailed(self):
        self.assertEqual(Machine.tailed("abcd", "a" * 298, "a").states, 300)
        self.fails(TooMany, STATES, Machine.tailed, "abcd", "a" * 299, "a")
        self.fails(TooMany, STATES, Machine.tailed, "abcd", "a" * 20000, "b")

    def test_longer(self):
        self.assertEqual(Machine.longer("ab", 298).states, 300)
        for size in (299, 300, 301, 302, 10 ** 6, 10 ** 29):
            self.fails(TooMany, STATES, Machine.longer, "ab", size)

    def test_of_lines(self):
        self.assertEqual(Machine.of_lines("ab", ["ab" * 149]).states, 300)
        self.assertEqual(Machine.of_lines("ab", ["b" * 298, "", "b" * 4]).states, 300)
        self.fails(TooMany, STATES, Machine.of_lines, "ab", ["", "ab" * 149 + "a"])
        self.fails(TooMany, STATES, Machine.of_lines, "ab", ["a" * 20000])

    def test_of_short_lines(self):
        # Behind different fronts there are different numbers of signs: many states, though the lines are short.
        tails = [f"{number:09b}".replace("0", "a").replace("1", "b") for number in range(512)]
        source = random.Random(1)
        lines = [tail + source.choice(tails) for tail in tails for _ in range(3)]
        self.fails(TooMany, STATES, Machine.of_lines, "ab", lines)

    def test_of_lines_just_at_the_limit(self):
        # Two paths that share the states ahead of the last sign, behind it, and the dead one: 2 * size states.
        self.assertEqual(Machine.of_lines("ab", ["a" * 150, "b" * 149 + "a"]).states, 300)
        self.fails(TooMany, STATES, Machine.of_lines, "ab", ["a" * 150, "b" * 149 + "a", "b" * 149])
        self.fails(TooMany, STATES, Machine.of_lines, "ab", ["a" * 151, "b" * 150 + "a"])

    def test_many_lines_with_few_states(self):
        lines = ["".join("ab"[number >> at & 1] for at in range(10)) for number in range(1024)]
        self.assertEqual(Machine.of_lines("ab", lines + lines[:900]).states, 12)


class Operators(Case):
    def test_just_at_the_limit(self):
        one, other = cycle("abc", "a", 15, [0]), cycle("abc", "b", 20, [0])
        for found in (one | other, one & other, one - other, other - one):
            self.assertEqual(found.states, 300)
            self.assertEqual((-found).states, 300)

    def test_one_more(self):
        one, other = cycle("abc", "a", 7, [0]), cycle("abc", "b", 43, [0])
        self.fails(TooMany, STATES, lambda: one | other)
        self.fails(TooMany, STATES, lambda: one & other)
        self.fails(TooMany, STATES, lambda: one - other)

    def test_much_more(self):
        one, other = cycle("ab", "a", 300, [0]), cycle("ab", "b", 300, [7])
        self.fails(TooMany, STATES, lambda: one | other)
        self.fails(TooMany, STATES, lambda: one & other)
        self.fails(TooMany, STATES, lambda: one - other)

    def test_much_on_the_way(self):
        # No line of at most 290 signs has 298 of one sign; pairs of both states are met all the same.
        short, odd = -Machine.longer("ab", 290), cycle("ab", "a", 299, [298])
        self.assertEqual(short - odd, short)
        self.assertEqual(short & odd, Machine.nothing("ab"))
        self.assertEqual((-short) | -odd, -odd | Machine.longer("ab", 290))
        self.assertEqual(-short | -odd, Machine.every("ab"))

    def test_all_on_the_way(self):
        # Just one of both can accept a line: one by its last sign, the other one by the other one.
        def last(sign, many):
            rows = []
            for at in range(2 * many):
                behind = (at // 2 + 1) % many * 2
                rows.append((behind + 1, behind) if sign == "a" else (behind, behind + 1))
            return Machine("ab", rows, [1])
        one, other = last("a", 150), last("b", 149)
        self.assertEqual((one.states, other.states), (151, 150))
        self.assertEqual(one & other, Machine.nothing("ab"))
        self.assertEqual(one - other, one)
        self.fails(TooMany, STATES, lambda: one | other)


class WithoutThisLimit(Case):
    def test_held(self):
        one, other = cycle("ab", "a", 300, [299]), cycle("ab", "a", 299, [298])
        self.assertFalse(one.is_within(other))
        self.assertEqual(one.unlike_line(other), "a" * 298)
        other = cycle("ab", "b", 299, [298])
        self.assertEqual(one.unlike_line(other), "b" * 298)
        self.assertFalse(other.is_within(one))
        most = cycle("ab", "b", 299, list(range(298)))
        self.assertEqual(cycle("ab", "a", 300, [0]).unlike_line(most), "a")

    def test_within_with_all_pairs(self):
        # Each pair of states is met, but for some line of a's and b's the first one never accepts alone.
        one = cycle("ab", "a", 300, [299])
        self.assertTrue((one - Machine.every("ab")) == Machine.nothing("ab"))
        self.assertFalse(one.is_within(cycle("ab", "b", 299, list(range(1, 299)))))
        self.assertTrue(one.is_within(Machine.having("ab", "a")))

    def test_listing(self):
        large = cycle("ab", "a", 300, [299])
        self.assertEqual(large.first_line(), "a" * 299)
        self.assertFalse(large.is_finite())
        self.assertEqual(large.how_many(300), 300)
        self.assertEqual(large.first_lines(3), ["a" * 299, "a" * 299 + "b", "a" * 298 + "ba"])


class Passed(Case):
    def test_how_many(self):
        machine = Machine.every("ab")
        self.assertEqual(machine.how_many(400), 2 ** 400)
        for size in (401, 402, 10 ** 29, 2 ** 400):
            self.fails(TooMany, {"what": "signs", "limit": 400}, machine.how_many, size)
        self.fails(TooMany, {"what": "signs", "limit": 400}, Machine.nothing("ab").how_many, size=401)

    def test_first_lines(self):
        machine = Machine.every("ab")
        self.assertEqual(len(machine.first_lines(200)), 200)
        for many in (201, 202, 10 ** 29):
            self.fails(TooMany, {"what": "lines", "limit": 200}, machine.first_lines, many)
        self.fails(TooMany, {"what": "lines", "limit": 200}, Machine.nothing("ab").first_lines, many=201)

    def test_class_value(self):
        self.assertEqual(Machine.MOST_STATES, 300)
        self.assertEqual(Machine.every("ab").MOST_STATES, 300)
