"""The limits of relays, which of several comes first, and what has none."""

import random

from frontlines.errors import TooMany
from frontlines.relays import Relay
from tests import brute
from tests.cases import Case

CELLS = {"what": "cells", "limit": 400}
SIGNS = {"what": "signs", "limit": 40}
TIMES = {"what": "times", "limit": 60}


def with_uneven(signs, many):
    """A relay that is not even at just the first so many lines."""
    lines = brute.lines_up_to(signs, 8)[:many]
    return Relay(signs, [("whole", line, "" if line else signs[0]) for line in lines])


def many_rules():
    """Rules whose table has about 60000 cells."""
    source = random.Random(1)
    olds = ["".join(source.choice("-.=>") for _ in range(40)) for _ in range(399)]
    return [("front", old, old[::-1]) for old in olds] + [("front", "", "-")]


class Tables(Case):
    def test_400_cells(self):
        table = with_uneven("->a", 133).table()
        self.assertEqual(len(table), 400)
        self.assertEqual(len([cell for cell in table if cell[0] == "whole"]), 133)
        self.assertEqual([cell[1] for cell in table], sorted([cell[1] for cell in table], key=brute.order))
        self.assertEqual(len(with_uneven("ab", 199).table()), 399)
        self.assertEqual(len(with_uneven("-.=>", 99).table()), 397)

    def test_one_more(self):
        self.fails(TooMany, CELLS, with_uneven("ab", 200).table)
        self.fails(TooMany, CELLS, with_uneven("->a", 134).table)
        self.fails(TooMany, CELLS, with_uneven("-.=>", 100).table)

    def test_many_rules_with_few_cells(self):
        rules = [(kind, old, old) for kind, old, _ in many_rules()]
        self.assertEqual(Relay("-.=>", rules).table(), [("front", "", "")])
        self.assertEqual(Relay("-.=>", [("front", "", "-")] + many_rules()[1:]).table(), [("front", "", "-")])


class Products(Case):
    def test_400_cells(self):
        most, nothing = with_uneven("->a", 133), Relay("->a", [])
        self.assertEqual((most * nothing).table(), most.table())
        self.assertEqual((nothing * most).table(), most.table())
        self.assertEqual(most.power(1).table(), most.table())

    def test_one_more(self):
        large, nothing = with_uneven("ab", 200), Relay("ab", [])
        self.fails(TooMany, CELLS, lambda: large * nothing)
        self.fails(TooMany, CELLS, lambda: nothing * large)
        self.fails(TooMany, CELLS, large.power, 1)
        self.assertEqual(large.power(0), nothing)

    def test_more_than_each_has(self):
        # Behind each of three fronts the whole table of the other relay stands again.
        fronts = Relay("->a", [("front", "--", ""), ("front", "->", ""), ("front", "-a", "")])
        half = with_uneven("->a", 43)
        self.assertLess(len((fronts * with_uneven("->a", 30)).table()), 401)
        self.fails(TooMany, CELLS, lambda: fronts * half)
        self.assertLess(len((half * fronts).table()), 401)

    def test_fewer_than_each_has(self):
        # Both have more cells than may be told, but one undoes the other one.
        olds = brute.lines_up_to("ab", 8)[255:]
        shift = {old: olds[at - 1] for at, old in enumerate(olds)}
        there = Relay("ab", [("front", old, new) for old, new in shift.items()])
        back = Relay("ab", [("front", new, old) for old, new in shift.items()])
        self.fails(TooMany, CELLS, there.table)
        self.fails(TooMany, CELLS, back.table)
        self.assertEqual((there * back).rules(), [])
        self.assertEqual(there.undoes(back), True)

    def test_40_signs(self):
        half = Relay("->a", [("front", "", "-" * 20)])
        self.assertEqual((half * half).rules(), [("front", "", "-" * 40)])
        more = Relay("->a", [("front", "", "-" * 21)])
        self.fails(TooMany, SIGNS, lambda: half * more)
        self.fails(TooMany, SIGNS, lambda: more * half)
        self.fails(TooMany, SIGNS, half.power, 3)
        self.assertEqual(half.power(2).rules(), [("front", "", "-" * 40)])

    def test_40_signs_in_old_lines(self):
        strip = Relay("->a", [("front", ">", "")])
        self.assertEqual(len(strip.power(40).table()), 121)
        self.fails(TooMany, SIGNS, strip.power, 41)
        self.fails(TooMany, SIGNS, strip.power, 60)

    def test_long_lines_in_cells_that_change_nothing(self):
        relay = Relay("->a", [("whole", "-" * 40, "")])
        self.assertEqual(len(relay.table()[-1][1]), 41)
        self.assertEqual((relay * relay).rules(), relay.rules())
        self.assertEqual(relay.power(60), relay)

    def test_cells_come_before_signs(self):
        fronts = Relay("->a", [("front", ">" * 40, ""), ("front", "-" * 40, "")])
        self.assertEqual(len(fronts.table()), 238)
        self.fails(TooMany, CELLS, lambda: fronts * fronts)
        self.fails(TooMany, CELLS, fronts.power, 2)

    def test_times(self):
        nothing = Relay("->a", [])
        self.assertEqual(nothing.power(60), nothing)
        for times in (61, 62, 10 ** 29):
            self.fails(TooMany, TIMES, nothing.power, times)
        self.fails(TooMany, TIMES, with_uneven("ab", 200).power, times=61)
        self.fails(TooMany, CELLS, with_uneven("ab", 200).power, times=60)

    def test_errors_on_the_way(self):
        # Twice, ">" becomes a line of 41 signs, but three times a short one.
        relay = Relay("->a", [("whole", ">", "-" * 40), ("front", "-" * 39, "a" * 40), ("front", "a" * 40, ">>")])
        self.assertEqual(relay(relay(">")), "a" * 40 + "-")
        self.assertEqual(relay(relay(relay(">"))), ">>-")
        self.fails(TooMany, SIGNS, relay.power, 2)
        self.fails(TooMany, SIGNS, relay.power, 3)
        self.assertEqual(relay.power(1).rules(), relay.rules())


class Undoing(Case):
    def test_cells(self):
        shift = Relay("ab", [("whole", line, line + "a") for line in ("a" * at for at in range(40))])
        self.assertIsNone(shift.undoing())
        self.fails(TooMany, CELLS, with_uneven("ab", 200).undoing)
        self.assertIsNone(with_uneven("ab", 199).undoing())

    def test_signs(self):
        # The line of 40 signs stays, so the one behind it does not: a cell has 41 signs.
        relay = Relay("->a", [("whole", "-" * 40, "-" * 40), ("front", "", ">")])
        self.assertIsNone(relay.joined_lines())
        self.fails(TooMany, SIGNS, relay.undoing)
        shorter = Relay("->a", [("whole", "-" * 38, "-" * 38), ("front", "", ">")])
        self.assertTrue(shorter.undoing().undoes(shorter))

    def test_both_also_if_there_is_none(self):
        relay = Relay("->a", [("whole", "-" * 40, ">"), ("front", "", ">")])
        self.assertEqual(relay.joined_lines(), ("", "-" * 40))
        self.fails(TooMany, SIGNS, relay.undoing)
        large = with_uneven("ab", 200)
        self.assertIsNotNone(large.joined_lines())
        self.fails(TooMany, CELLS, large.undoing)

    def test_cells_come_before_signs(self):
        relay = Relay("-.=>", many_rules())
        self.fails(TooMany, CELLS, relay.undoing)


class WithoutLimit(Case):
    def test_large_tables(self):
        rules = many_rules()
        relay, other = Relay("-.=>", rules), Relay("-.=>", rules[:-2] + rules[-1:])
        self.fails(TooMany, CELLS, relay.table)
        self.assertTrue(relay.is_alike(Relay("-.=>", rules[::-1][1:] + rules[-1:])))
        self.assertFalse(relay.is_alike(other))
        self.assertEqual(relay.parting_line(other), rules[-2][1])
        self.assertIsNone(relay.parting_line(relay))
        self.assertFalse(relay.undoes(other))

    def test_large_joined_lines(self):
        rules = many_rules()
        relay = Relay("-.=>", rules)
        found = relay.joined_lines()
        self.assertEqual(relay(found[0]), relay(found[1]))
        swapped = [("front", old, new) for old, new in zip([r[1] for r in rules[:-1]], [r[1] for r in rules[1:-1]])]
        swapped.append(("front", rules[-2][1], rules[0][1]))
        turn = Relay("-.=>", swapped)
        self.assertIsNone(turn.joined_lines())
        back = Relay("-.=>", [(kind, new, old) for kind, old, new in swapped])
        self.assertTrue(back.undoes(turn))
        self.assertFalse(turn.undoes(turn))
        self.assertEqual((turn * back).rules(), [])
