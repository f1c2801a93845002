"""What relays do and tell, held against slow versions of it."""

import random

from frontlines.relays import Relay
from tests import brute
from tests.cases import STRANGE, Case

SIGNS = ["ab", "->a", "ab", "->a", "-.=>"]


def random_relays(seed, many, rules=4, size=2):
    """Tuples (signs, rules, Relay)."""
    source = random.Random(seed)
    for turn in range(many):
        signs = SIGNS[turn % 5]
        made = brute.random_rules(source, signs, rules, size)
        yield signs, made, Relay(signs, made)


def random_pairs(seed, many, rules=3, size=2):
    """Tuples (signs, rules, rules, Relay, Relay)."""
    ones, others = random_relays(seed, many, rules, size), random_relays(seed + 1000, many, rules, size)
    for (signs, one_rules, one), (_, other_rules, other) in zip(ones, others):
        yield signs, one_rules, other_rules, one, other


class Turning(Case):
    def test_random_relays(self):
        for signs, rules, relay in random_relays(1, 200, 6, 3):
            self.assertEqual((relay.signs, relay.rules()), (signs, rules))
            for line in brute.lines_up_to(signs, 5 if len(signs) < 4 else 4):
                self.assertEqual(relay(line), brute.turned(rules, line))

    def test_first_rule_that_fits(self):
        relay = Relay("->a", [("front", "--", ">"), ("front", "-", "a"), ("front", "->", "-"), ("whole", "-", ">>")])
        self.assertEqual([relay(line) for line in ("--", "---", "-", "->", "-a", "", ">", "a--")],
                         [">", ">-", "a", "a>", "aa", "", ">", "a--"])

    def test_whole_and_front(self):
        rules = [("whole", "-", ">"), ("front", "-", "a"), ("whole", "--", "")]
        relay = Relay("->a", rules)
        self.assertEqual([relay(line) for line in ("-", "--", "->")], [">", "a-", "a>"])
        relay = Relay("->a", rules[::-1])
        self.assertEqual([relay(line) for line in ("-", "--", "->")], ["a", "", "a>"])

    def test_empty_old(self):
        self.assertEqual(Relay("->a", [("whole", "", "a")])(""), "a")
        self.assertEqual(Relay("->a", [("whole", "", "a")])("-"), "-")
        self.assertEqual(Relay("->a", [("front", "", "a")])("-"), "a-")
        self.assertEqual(Relay("->a", [("whole", "-", "-"), ("front", "", "a")])("-"), "-")

    def test_long_line(self):
        relay = Relay("->a", [("front", "-" * 40, ""), ("front", "-", ">")])
        self.assertEqual(relay("-" * 20000), "-" * 19960)
        self.assertEqual(relay("-" * 39), ">" + "-" * 38)

    def test_no_rules(self):
        self.assertEqual(Relay("->a", [])("->a"), "->a")


class Tables(Case):
    def test_random_relays(self):
        for signs, rules, relay in random_relays(2, 250, 5, 3):
            self.assertEqual(relay.table(), brute.table(signs, [rules]))

    def test_no_rules(self):
        self.assertEqual(Relay("->a", []).table(), [("front", "", "")])

    def test_kinds_and_order(self):
        relay = Relay("->a", [("whole", ">-", "a"), ("front", "-", "--")])
        self.assertEqual(relay.table(), [
            ("whole", "", ""), ("front", "-", "--"), ("whole", ">", ">"), ("front", "a", "a"), ("whole", ">-", "a"),
            ("front", ">>", ">>"), ("front", ">a", ">a"), ("front", ">--", ">--"), ("front", ">->", ">->"),
            ("front", ">-a", ">-a"),
        ])

    def test_hidden_rules(self):
        shown = Relay("->a", [("front", "-", "")])
        hidden = [("front", "-", ""), ("front", "--", ">"), ("whole", "->", "a"), ("whole", "-", "a"), ("front", "-", "a")]
        self.assertEqual(Relay("->a", hidden).table(), shown.table())
        every = Relay("->a", [("front", "", "a"), ("front", "-" * 40, ">"), ("whole", "", "")])
        self.assertEqual(every.table(), [("front", "", "a")])

    def test_rules_that_change_nothing(self):
        self.assertEqual(Relay("->a", [("front", "-", "-"), ("whole", ">", ">")]).table(), [("front", "", "")])
        # Such a rule hides what stands behind it.
        kept = Relay("->a", [("front", "--", "--"), ("front", "-", "")])
        self.assertEqual(kept.table(), [
            ("whole", "", ""), ("whole", "-", ""), ("front", ">", ">"), ("front", "a", "a"), ("front", "--", "--"),
            ("front", "->", ">"), ("front", "-a", "a"),
        ])

    def test_rules_that_say_the_same(self):
        # Each sign in front is doubled, and so is none: that is not even at the empty line.
        apart = Relay("ab", [("front", "a", "aa"), ("front", "b", "ab"), ("whole", "", "a")])
        self.assertEqual(apart.table(), [("front", "", "a")])
        self.assertEqual(Relay("ab", [("front", "a", "aa"), ("front", "b", "ab")]).table(),
                         [("whole", "", ""), ("front", "a", "aa"), ("front", "b", "ab")])

    def test_kinds_of_values(self):
        table = Relay("->a", (("front", "-", ""),)).table()
        self.assertIs(table.__class__, list)
        self.assertTrue(all(cell.__class__ is tuple and len(cell) == 3 for cell in table))


class Products(Case):
    def test_random_pairs(self):
        for signs, one_rules, other_rules, one, other in random_pairs(3, 250):
            table = brute.table(signs, [one_rules, other_rules])
            found = one * other
            self.assertEqual(found.rules(), [cell for cell in table if cell[1] != cell[2]])
            self.assertEqual(found.signs, signs)
            self.assertEqual(found.table(), table)
            for line in brute.lines_up_to(signs, 5 if len(signs) < 4 else 4):
                self.assertEqual(found(line), other(one(line)))

    def test_longer_rules(self):
        for signs, one_rules, other_rules, one, other in random_pairs(33, 40, 4, 3):
            if len(signs) == 2:
                table = brute.table(signs, [one_rules, other_rules])
                self.assertEqual((one * other).rules(), [cell for cell in table if cell[1] != cell[2]])

    def test_sequence(self):
        strip, quote = Relay("->a", [("front", ">", "")]), Relay("->a", [("front", "-", ">-"), ("front", ">", ">>")])
        self.assertEqual((quote * strip).rules(), [])
        self.assertEqual((strip * quote).rules(), [("front", "-", ">-"), ("whole", ">", ""), ("front", ">a", "a")])

    def test_powers(self):
        for signs, rules, relay in random_relays(4, 60, 3, 2):
            found = Relay(signs, [])
            self.assertEqual(relay.power(0), found)
            for times in range(1, 4):
                found = found * relay
                self.assertEqual(relay.power(times), found)
                for line in brute.lines_up_to(signs, 4):
                    self.assertEqual(found(line), brute.turned_by_all([rules] * times, line))

    def test_first_power_is_by_the_table(self):
        relay = Relay("->a", [("whole", ">", ">"), ("front", "-", "a"), ("front", "--", "")])
        self.assertEqual(relay.power(1).rules(), [("front", "-", "a")])

    def test_high_powers(self):
        swap = Relay("->a", [("front", "-", ">"), ("front", ">", "-")])
        self.assertEqual(swap.power(60).rules(), [])
        self.assertEqual(swap.power(times=59).rules(), [("front", "-", ">"), ("front", ">", "-")])
        wipe = Relay("->a", [("whole", "-", "")])
        self.assertEqual(wipe.power(60), wipe)


class Alike(Case):
    def test_random_pairs(self):
        alike = 0
        for signs, one_rules, other_rules, one, other in random_pairs(5, 400, 2, 1):
            lines = brute.lines_up_to(signs, 3)
            apart = [x for x in lines if brute.turned(one_rules, x) != brute.turned(other_rules, x)]
            self.assertEqual(one.parting_line(other), apart[0] if apart else None)
            self.assertEqual(other.parting_line(one), one.parting_line(other))
            self.assertIs(one.is_alike(other), not apart)
            alike += not apart
        self.assertGreater(alike, 10)

    def test_longer_rules(self):
        for signs, one_rules, other_rules, one, other in random_pairs(6, 200, 5, 3):
            lines = brute.lines_up_to(signs, 4)
            apart = [x for x in lines if brute.turned(one_rules, x) != brute.turned(other_rules, x)]
            self.assertEqual(one.parting_line(other), apart[0] if apart else None)
            self.assertIs(one.is_alike(other), not apart)

    def test_its_own_table(self):
        for signs, _, relay in random_relays(7, 100, 5, 3):
            same = Relay(signs, relay.table())
            self.assertTrue(relay.is_alike(same))
            self.assertIsNone(same.parting_line(relay))

    def test_late_difference(self):
        one = Relay("->a", [("front", "-" * 39, ">")])
        other = Relay("->a", [("front", "-" * 40, ">"), ("whole", "-" * 39, ">")])
        self.assertEqual(one.parting_line(other), "-" * 40)
        self.assertEqual(one.parting_line(Relay("->a", [("front", "-" * 39 + ">", ">>")])), "-" * 39)
        self.assertFalse(one.is_alike(other))


class Joined(Case):
    def check(self, signs, rules, relay, most):
        """Rules of at most most // 2 signs: the lines that are joined first have at most most signs."""
        ahead, wanted = {}, None
        for line in brute.lines_up_to(signs, most):
            new = brute.turned(rules, line)
            if new in ahead:
                wanted = (ahead[new], line)
                break
            ahead[new] = line
        found = relay.joined_lines()
        self.assertEqual(found, wanted)
        self.assertIs(found.__class__, tuple if wanted else None.__class__)
        return wanted

    def test_random_relays(self):
        joined = [self.check(*case, 6 if len(case[0]) < 4 else 5) for case in random_relays(8, 400, 3, 2)]
        self.assertGreater(joined.count(None), 30)
        self.assertGreater(len(joined) - joined.count(None), 30)

    def test_longer_rules(self):
        for signs, rules, relay in random_relays(9, 200, 4, 3):
            if len(signs) == 2:
                self.check(signs, rules, relay, 9)

    def test_second_line_decides(self):
        # The lines ("", "---") and (">", "a") are joined.
        relay = Relay("->a", [("front", "---", ""), ("whole", "a", ">")])
        self.assertEqual(relay.joined_lines(), (">", "a"))
        # Three lines become the empty one: the second one is the least, and the first one with it.
        relay = Relay("->a", [("whole", ">", ""), ("whole", "a", "")])
        self.assertEqual(relay.joined_lines(), ("", ">"))
        relay = Relay("->a", [("whole", "", "-a"), ("whole", ">", "a"), ("whole", "-", "a")])
        self.assertEqual(relay.joined_lines(), ("-", ">"))

    def test_line_behind_a_front(self):
        relay = Relay("->a", [("front", "a", "-"), ("front", "-", "->a")])
        self.assertEqual(relay.joined_lines(), ("-", "a>a"))

    def test_least_first_line(self):
        # What ">>" becomes, "" and "-" have become as well.
        relay = Relay("->a", [("whole", "", "aaa"), ("whole", ">>", "aaa"), ("whole", "--", "aaa")])
        self.assertEqual(relay.joined_lines(), ("", "--"))


class Undoing(Case):
    def test_random_relays(self):
        undone = 0
        for signs, rules, relay in random_relays(10, 400, 3, 2):
            found = relay.undoing()
            self.assertEqual(found is None, relay.joined_lines() is not None)
            if found is not None:
                undone += 1
                cells = [cell for cell in brute.table(signs, [rules]) if cell[1] != cell[2]]
                wanted = sorted([(kind, new, old) for kind, old, new in cells], key=lambda rule: brute.order(rule[1]))
                self.assertEqual(found.rules(), wanted)
                self.assertIs(found.undoes(relay), True)
                for line in brute.lines_up_to(signs, 4):
                    self.assertEqual(found(relay(line)), line)
        self.assertGreater(undone, 30)

    def test_undoes_random_pairs(self):
        undone = 0
        for signs, one_rules, other_rules, one, other in random_pairs(11, 400, 2, 1):
            lines = brute.lines_up_to(signs, 4)
            wanted = all(brute.turned_by_all([other_rules, one_rules], line) == line for line in lines)
            self.assertIs(one.undoes(other), wanted)
            undone += wanted
        self.assertGreater(undone, 5)

    def test_one_side_only(self):
        strip, quote = Relay("->a", [("front", ">", "")]), Relay("->a", [("front", "-", ">-"), ("front", ">", ">>")])
        self.assertTrue(strip.undoes(quote))
        self.assertFalse(quote.undoes(strip))
        self.assertIsNone(strip.undoing())
        self.assertEqual(quote.undoing().rules(), [("front", ">-", "-"), ("front", ">>", ">")])
        self.assertNotEqual(quote.undoing(), strip)

    def test_further_lines(self):
        # It turns what comes of the first cell back, but not with each sign behind it.
        relay = Relay("->a", [("front", "", "-")])
        self.assertFalse(Relay("->a", [("whole", "-", "")]).undoes(relay))
        self.assertFalse(Relay("->a", [("front", "--a", ">"), ("front", "-", "")]).undoes(relay))
        self.assertTrue(Relay("->a", [("front", "a", ">"), ("front", "-", "")]).undoes(relay))

    def test_nothing_to_undo(self):
        empty = Relay("->a", [])
        self.assertTrue(empty.undoes(empty))
        self.assertEqual(empty.undoing(), empty)
        self.assertEqual(Relay("->a", [("front", "-", "-")]).undoing().rules(), [])

    def test_sorted_by_the_new_lines(self):
        relay = Relay("->a", [("whole", "", "aa"), ("front", "aa", "a-"), ("whole", "a-", ""), ("front", "a-", "aa")])
        found = relay.undoing()
        self.assertEqual([rule[1] for rule in found.rules()],
                         sorted([rule[1] for rule in found.rules()], key=brute.order))
        self.assertTrue(found.undoes(relay))


class Equal(Case):
    def test_equal(self):
        rules = [("front", "-", ">"), ("whole", ">", "")]
        self.assertTrue(Relay("->a", rules) == Relay("->a", tuple(rules)))
        self.assertFalse(Relay("->a", rules) != Relay("->a", rules))

    def test_not_equal(self):
        rules = [("front", "-", ">"), ("whole", ">", "")]
        self.assertFalse(Relay("->a", rules) == Relay("->a", rules[::-1]))
        self.assertTrue(Relay("->a", rules).is_alike(Relay("->a", rules[::-1])))
        self.assertFalse(Relay("->a", rules) == Relay("->a", rules[:1]))
        self.assertFalse(Relay("->a", rules) == Relay("->", rules))
        self.assertFalse(Relay("->a", []) == Relay("->b", []))
        self.assertTrue(Relay("->a", []) != Relay("->a", [("front", "-", "-")]))

    def test_values_of_another_kind(self):
        relay = Relay("->a", [])
        for value in STRANGE + ["->a", 0, [], (), repr(relay), ("->a", [])]:
            self.assertFalse(relay == value)
            self.assertTrue(relay != value)

    def test_repr(self):
        self.assertEqual(repr(Relay("->a", [])), "Relay('->a', [])")
        self.assertEqual(repr(Relay("->a", (("whole", "", ">"), ("front", "a", "--")))),
                         "Relay('->a', [('whole', '', '>'), ('front', 'a', '--')])")
