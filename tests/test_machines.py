"""What machines tell, held against slow versions of it."""

import random

from frontlines.machines import Machine
from tests import brute
from tests.cases import STRANGE, AlwaysEqual, Case

SIGNS = ["ab", "->a", "-.=>"]


def accepted(machine, most):
    """The lines of at most so many signs that the machine accepts, by its rows and ends."""
    rows, ends, signs = machine.rows(), machine.ends(), machine.signs
    return [line for line in brute.lines_up_to(signs, most) if brute.accepts(signs, rows, ends, line)]


class LeastForm(Case):
    def test_random_machines(self):
        source = random.Random(1)
        for turn in range(300):
            signs = SIGNS[turn % 3]
            rows, ends = brute.random_form(source, signs, source.randrange(1, 12))
            machine = Machine(signs, rows, ends)
            least_rows, least_ends = brute.least(signs, rows, ends)
            self.assertEqual((machine.rows(), machine.ends()), (least_rows, least_ends))
            self.assertEqual(machine.states, len(least_rows))
            other_rows, other_ends = brute.renumbered(source, rows, ends)
            self.assertEqual(Machine(signs, other_rows, other_ends), machine)
            self.assertEqual(Machine(signs, least_rows, least_ends), machine)

    def test_long_differences(self):
        source = random.Random(2)
        for size in (30, 31, 60):
            rows = [(min(at + 1, size - 1), at) for at in range(size)]
            for ends in ([size - 1], [0], [size // 2], [size - 2]):
                found = Machine("ab", *brute.renumbered(source, rows, ends))
                self.assertEqual((found.rows(), found.ends()), brute.least("ab", rows, ends))

    def test_states_that_are_not_reached(self):
        machine = Machine("ab", [(0, 2), (1, 0), (2, 2), (3, 1)], [0, 3, 1])
        self.assertEqual(repr(machine), "Machine('ab', [(0, 1), (1, 1)], [0])")

    def test_states_that_are_alike(self):
        machine = Machine("ab", [(1, 2), (2, 1), (1, 2)], [0, 1, 2])
        self.assertEqual((machine.rows(), machine.ends(), machine.states), ([(0, 0)], [0], 1))
        machine = Machine("ab", [(1, 2), (2, 1), (1, 2)], [])
        self.assertEqual((machine.rows(), machine.ends(), machine.states), ([(0, 0)], [], 1))

    def test_numbered_as_met(self):
        machine = Machine("abc", [(3, 0, 2), (0, 0, 0), (1, 3, 3), (2, 1, 0)], [1])
        self.assertEqual(machine.rows(), [(1, 0, 2), (2, 3, 0), (3, 1, 1), (0, 0, 0)])
        self.assertEqual(machine.ends(), [3])

    def test_kinds_of_what_is_returned(self):
        machine = Machine("ab", [[1, 0], [0, 1]], (1, 0))
        self.assertIs(machine.rows().__class__, list)
        self.assertTrue(all(row.__class__ is tuple for row in machine.rows()))
        self.assertIs(machine.ends().__class__, list)
        self.assertIs(machine.is_finite(), False)
        self.assertIs(machine.is_within(machine), True)

    def test_ends_are_sorted(self):
        rows = [(at + 1, 7) for at in range(7)] + [(7, 7)]
        self.assertEqual(Machine("ab", rows, [4, 0, 5]).ends(), [0, 5, 6])
        self.assertEqual(Machine("ab", rows, (6, 3)).ends(), [4, 7])


class Equal(Case):
    def test_equal(self):
        self.assertTrue(Machine.every("ab") == Machine("ab", [(1, 1), (0, 0)], [0, 1]))
        self.assertFalse(Machine.every("ab") != Machine("ab", [(1, 1), (0, 0)], [0, 1]))

    def test_not_equal(self):
        self.assertFalse(Machine.every("ab") == Machine.nothing("ab"))
        self.assertFalse(Machine.every("ab") == Machine.every("ac"))
        self.assertFalse(Machine.every("ab") == Machine.every("abc"))
        self.assertTrue(Machine.every("ab") != Machine.every("ac"))
        self.assertFalse(Machine("ab", [(0, 1), (0, 1)], [0]) == Machine("ab", [(0, 1), (0, 1)], [1]))
        self.assertFalse(Machine("ab", [(0, 1), (0, 1)], [0]) == Machine("ab", [(0, 1), (1, 0)], [0]))

    def test_values_of_another_kind(self):
        machine = Machine.every("ab")
        for value in STRANGE + ["ab", 0, [], (), repr(machine), ("ab", [(0, 0)], [0]), [(0, 0)]]:
            self.assertFalse(machine == value)
            self.assertTrue(machine != value)


class Contains(Case):
    def test_lines(self):
        source = random.Random(3)
        for turn in range(60):
            signs = SIGNS[turn % 3]
            rows, ends = brute.random_form(source, signs, source.randrange(1, 7))
            machine = Machine(signs, rows, ends)
            for line in brute.lines_up_to(signs, 5):
                self.assertIs(line in machine, brute.accepts(signs, rows, ends, line))

    def test_other_values(self):
        machine = Machine.every("->a")
        for value in STRANGE + [0, 1, ["-"], ("-",), [], (), "b", "-b", "b-", " ", "-\n", "A", AlwaysEqual()]:
            self.assertIs(value in machine, False)
            self.assertIs(value not in machine, True)
        self.assertIn("", machine)
        self.assertIn("->a" * 6000, machine)

    def test_long_lines(self):
        machine = Machine("ab", [(1, 0), (0, 1)], [1])
        self.assertIn("a" * 19999, machine)
        self.assertNotIn("a" * 20000, machine)


class Makers(Case):
    def check(self, machine, is_wanted, most=6):
        """The machine accepts just the wanted lines and is in its least form."""
        self.assertEqual(accepted(machine, most), [x for x in brute.lines_up_to(machine.signs, most) if is_wanted(x)])
        least = brute.least(machine.signs, machine.rows(), machine.ends())
        self.assertEqual((machine.rows(), machine.ends()), least)

    def test_every_and_nothing(self):
        for signs in SIGNS:
            self.check(Machine.every(signs), lambda line: True, 3)
            self.check(Machine.nothing(signs), lambda line: False, 3)
            self.assertEqual((Machine.every(signs).states, Machine.nothing(signs).states), (1, 1))

    def test_of_lines(self):
        source = random.Random(4)
        self.check(Machine.of_lines("->a", []), lambda line: False)
        self.check(Machine.of_lines("->a", ()), lambda line: False)
        self.check(Machine.of_lines("->a", [""]), lambda line: line == "")
        pool = brute.lines_up_to("->a", 4)
        for _ in range(60):
            lines = [source.choice(pool) for _ in range(source.randrange(12))]
            self.check(Machine.of_lines("->a", lines), lambda line: line in lines, 5)
            self.assertEqual(Machine.of_lines("->a", tuple(lines[::-1] + lines)), Machine.of_lines("->a", lines))

    def test_of_all_lines(self):
        machine = Machine.of_lines("-.=>", brute.lines_up_to("-.=>", 5)[::-1])
        self.assertEqual(machine, -Machine.longer("-.=>", 5))
        self.assertEqual(machine.states, 7)

    def test_beginning_and_having(self):
        for signs in ("ab", "abc"):
            for text in brute.lines_up_to(signs, 4):
                self.check(Machine.beginning(signs, text), lambda line: line.startswith(text), 6 if signs == "ab" else 5)
                self.check(Machine.having(signs, text), lambda line: text in line, 7 if signs == "ab" else 5)
        for text in ("abaabab", "aabaaab", "aaaaaaa", "abababa"):
            self.check(Machine.having("ab", text), lambda line: text in line, 10)

    def test_tailed(self):
        for text in brute.lines_up_to("->a", 3):
            for sign in "->a":
                wanted = [text + sign * times for times in range(7)]
                self.check(Machine.tailed("->a", text, sign), lambda line: line in wanted)

    def test_longer(self):
        for signs in SIGNS:
            for size in range(5):
                self.check(Machine.longer(signs, size), lambda line: len(line) > size, 5)
                self.assertEqual(Machine.longer(signs, size).states, size + 2)

    def test_by_name(self):
        self.assertEqual(Machine.of_lines(lines=["a"], signs="ab"), Machine.of_lines("ab", ["a"]))
        self.assertEqual(Machine.tailed(sign="a", line="b", signs="ab"), Machine.tailed("ab", "b", "a"))
        self.assertEqual(Machine.longer(size=2, signs="ab"), Machine.longer("ab", 2))
        self.assertEqual(Machine.beginning(line="b", signs="ab"), Machine.beginning("ab", "b"))
        self.assertEqual(Machine.having(line="b", signs="ab"), Machine.having("ab", "b"))
        self.assertEqual(Machine.every(signs="ab"), Machine.every("ab"))


class Operators(Case):
    def test_random_pairs(self):
        source = random.Random(5)
        for turn in range(120):
            signs = SIGNS[turn % 3]
            one = Machine(signs, *brute.random_form(source, signs, source.randrange(1, 6)))
            other = Machine(signs, *brute.random_form(source, signs, source.randrange(1, 6)))
            lines = brute.lines_up_to(signs, 5)
            first, second = set(accepted(one, 5)), set(accepted(other, 5))
            for found, wanted in (
                (one | other, first | second),
                (one & other, first & second),
                (one - other, first - second),
                (-one, set(lines) - first),
            ):
                self.assertEqual(set(accepted(found, 5)), wanted)
                self.assertEqual((found.rows(), found.ends()), brute.least(signs, found.rows(), found.ends()))

    def test_laws(self):
        source = random.Random(6)
        for turn in range(60):
            signs = SIGNS[turn % 3]
            one = Machine(signs, *brute.random_form(source, signs, source.randrange(1, 9)))
            other = Machine(signs, *brute.random_form(source, signs, source.randrange(1, 9)))
            self.assertEqual(one - other, one & -other)
            self.assertEqual(one | other, -(-one & -other))
            self.assertEqual(one | other, other | one)
            self.assertEqual(-(-one), one)
            self.assertEqual(one - one, Machine.nothing(signs))
            self.assertEqual(one | -one, Machine.every(signs))

    def test_edges(self):
        every, nothing = Machine.every("ab"), Machine.nothing("ab")
        self.assertEqual((-every, -nothing), (nothing, every))
        self.assertEqual((every & nothing, every | nothing, every - nothing, nothing - every),
                         (nothing, every, every, nothing))


class Held(Case):
    def test_random_pairs(self):
        source = random.Random(7)
        for turn in range(150):
            signs = SIGNS[turn % 3]
            one = Machine(signs, *brute.random_form(source, signs, source.randrange(1, 4)))
            other = Machine(signs, *brute.random_form(source, signs, source.randrange(1, 4)))
            # Some line that tells two machines apart has fewer signs than both have states.
            size = one.states + other.states - 1
            first, second = accepted(one, size), accepted(other, size)
            self.assertIs(one.is_within(other), set(first) <= set(second))
            unlike = sorted(set(first) ^ set(second), key=brute.order)
            self.assertEqual(one.unlike_line(other), unlike[0] if unlike else None)
            self.assertEqual(other.unlike_line(one), one.unlike_line(other))
            self.assertEqual(one.first_line(), first[0] if first else None)

    def test_none(self):
        every, nothing = Machine.every("ab"), Machine.nothing("ab")
        self.assertIsNone(every.unlike_line(every))
        self.assertIsNone(nothing.first_line())
        self.assertEqual(every.first_line(), "")
        self.assertEqual(every.unlike_line(other=nothing), "")
        self.assertTrue(nothing.is_within(every))
        self.assertFalse(every.is_within(other=nothing))

    def test_least_line(self):
        machine = Machine.of_lines("->a", ["a", "--", ">-", "->"])
        self.assertEqual(machine.first_line(), "a")
        self.assertEqual((machine - Machine.of_lines("->a", ["a"])).first_line(), "--")
        self.assertEqual(machine.unlike_line(Machine.of_lines("->a", ["a", "--", "a-"])), "->")


class Counting(Case):
    def test_random_machines(self):
        source = random.Random(8)
        for turn in range(150):
            signs = SIGNS[turn % 3]
            rows, ends = brute.random_form(source, signs, source.randrange(1, 6))
            machine = Machine(signs, rows, ends)
            lines = accepted(machine, 6)
            for size in range(7):
                self.assertEqual(machine.how_many(size), len([line for line in lines if len(line) == size]))
            for many in (0, 1, 2, 7, 30):
                found = machine.first_lines(many)
                self.assertEqual([line for line in found if len(line) <= 6], lines[:many])
                self.assertEqual(found, sorted(set(found), key=brute.order))
                self.assertTrue(all(brute.accepts(signs, rows, ends, line) for line in found))
                self.assertTrue(len(found) == many or (machine.is_finite() and len(found) < many))
            # Finitely many lines have fewer signs than there are states, and others go round before twice as many.
            longest = 2 * machine.states
            rounds = [machine.how_many(size) for size in range(machine.states, longest)]
            self.assertIs(machine.is_finite(), sum(rounds) == 0)

    def test_finite(self):
        self.assertIs(Machine.nothing("ab").is_finite(), True)
        self.assertIs(Machine.every("ab").is_finite(), False)
        self.assertIs(Machine.of_lines("ab", ["", "abab"]).is_finite(), True)
        self.assertIs(Machine.tailed("ab", "ab", "a").is_finite(), False)
        self.assertIs((-Machine.longer("ab", 298)).is_finite(), True)
        self.assertIs(Machine.longer("ab", 298).is_finite(), False)
        # A loop that leads to no end, and an end behind no loop.
        self.assertIs(Machine("ab", [(1, 2), (2, 2), (2, 2)], [1]).is_finite(), True)

    def test_how_many_edges(self):
        every = Machine.every("-.=>")
        self.assertEqual(every.how_many(0), 1)
        self.assertEqual(every.how_many(400), 4 ** 400)
        self.assertEqual(every.how_many(size=3), 64)
        self.assertEqual(Machine.nothing("ab").how_many(0), 0)
        self.assertEqual(Machine.nothing("ab").how_many(400), 0)
        self.assertEqual(Machine.tailed("ab", "", "a").how_many(400), 1)
        self.assertEqual(Machine.having("ab", "a").how_many(400), 2 ** 400 - 1)

    def test_first_lines_edges(self):
        every = Machine.every("ab")
        self.assertEqual(every.first_lines(0), [])
        self.assertEqual(every.first_lines(200), brute.lines_up_to("ab", 7)[:200])
        self.assertEqual(Machine.nothing("ab").first_lines(200), [])
        self.assertEqual(Machine.of_lines("ab", ["b", "", "aaa", "ab"]).first_lines(200), ["", "b", "ab", "aaa"])
        self.assertEqual(Machine.of_lines("ab", ["b", "", "aaa", "ab"]).first_lines(many=3), ["", "b", "ab"])
        self.assertEqual(Machine.of_lines("ab", ["a" * 298]).first_lines(2), ["a" * 298])
        self.assertEqual(Machine.tailed("ab", "b", "a").first_lines(200), ["b" + "a" * times for times in range(200)])

    def test_first_lines_far_apart(self):
        rows = [((at + 1) % 40 if at != 40 else 40, 40) for at in range(41)]
        machine = Machine("ab", rows, [0])
        self.assertEqual(machine.first_lines(200), ["a" * (40 * times) for times in range(200)])
