"""The errors of Relay: which values are not valid, and which error comes first."""

from frontlines.errors import InvalidCount, InvalidLine, InvalidRules, InvalidSigns, OtherSigns, TooMany
from frontlines.relays import Relay
from tests.cases import STRANGE, AlwaysEqual, Case
from tests.test_machine_errors import BAD_COUNTS, BAD_LINES, BAD_SIGNS, GOOD_SIGNS

BAD_RULES = [
    (), ("front",), ("front", "-"), ("front", "-", "-", "-"), ["front", "-", ""], "front", "abc", 0, 1,
    ("Front", "-", ""), ("fronts", "-", ""), ("", "-", ""), (None, "-", ""), (["front"], "-", ""), (b"front", "-", ""),
    (AlwaysEqual(), "-", ""), (("front", "whole"), "-", ""), (0, "-", ""), (True, "-", ""),
    ("front", "b", ""), ("whole", "", "b"), ("front", "-", None), ("front", None, "-"), ("whole", "-", ["-"]),
    ("whole", ("-",), "-"), ("front", 0, ""), ("front", "", True), ("front", False, ""), ("front", AlwaysEqual(), ""),
    ("front", "-" * 41, ""), ("whole", "", ">" * 41), ("front", "-\n", ""), ("front", "-", "_"),
] + STRANGE


class Rules(Case):
    def test_signs(self):
        for value in BAD_SIGNS:
            self.fails(InvalidSigns, {"value": value}, Relay, value, [])
            self.fails(InvalidSigns, {"value": value}, Relay, signs=value, rules=None)
        for value in GOOD_SIGNS:
            self.assertEqual(Relay(value, []).signs, value)
            self.assertEqual(Relay(value, [("front", value[1], value)])(value[1]), value)

    def test_no_list(self):
        for value in STRANGE + ["", "front", 0, AlwaysEqual()]:
            self.fails(InvalidRules, {"position": None}, Relay, "->a", value)
            self.fails(InvalidRules, {"position": None}, Relay, rules=value, signs="->a")

    def test_wrong_rules(self):
        good = ("front", "-", "")
        for rule in BAD_RULES:
            self.fails(InvalidRules, {"position": 0}, Relay, "->a", [rule])
            self.fails(InvalidRules, {"position": 0}, Relay, "->a", (rule, None, good))
            self.fails(InvalidRules, {"position": 2}, Relay, "->a", [good, good, rule, "x"])
        self.fails(InvalidRules, {"position": 0}, Relay, "->a", good)

    def test_rules_of_40_signs(self):
        rules = [("front", "-" * 40, ">" * 40), ("whole", "a" * 40, "")]
        self.assertEqual(Relay("->a", rules).rules(), rules)
        self.assertEqual(Relay("->a", rules)("-" * 41), ">" * 40 + "-")
        for rule in (("front", "-" * 41, ""), ("front", "", "-" * 41), ("whole", "-" * 41, ""), ("whole", "", "-" * 41)):
            self.fails(InvalidRules, {"position": 1}, Relay, "->a", [rules[0], rule])

    def test_lists_and_tuples(self):
        rules = [("front", "-", ""), ("whole", "", ">")]
        self.assertEqual(Relay("->a", tuple(rules)), Relay("->a", rules))
        self.assertEqual(Relay(rules=rules, signs="->a"), Relay("->a", rules))
        self.assertIs(Relay("->a", tuple(rules)).rules().__class__, list)

    def test_400_rules(self):
        rules = [("whole", "-" * (at % 40), ">") for at in range(400)]
        self.assertEqual(Relay("->a", rules).rules(), rules)
        told = {"what": "rules", "limit": 400}
        self.fails(TooMany, told, Relay, "->a", rules + [("front", "", "")])
        self.fails(TooMany, told, Relay, signs="->a", rules=tuple(rules * 5))
        self.fails(InvalidRules, {"position": 400}, Relay, "->a", rules + [("front", "b", "")])
        self.fails(InvalidRules, {"position": 401}, Relay, "->a", rules + [("front", "", ""), 0])


class Parameters(Case):
    def test_line(self):
        relay = Relay("->a", [("front", ">", "")])
        for value in BAD_LINES + [AlwaysEqual()]:
            self.fails(InvalidLine, {"value": value}, relay, value)
            self.fails(InvalidLine, {"value": value}, relay, line=value)
        self.assertEqual(relay(line=">>"), ">")

    def test_times(self):
        relay = Relay("->a", [("front", ">", "")])
        for value in BAD_COUNTS + [AlwaysEqual()]:
            self.fails(InvalidCount, {"value": value}, relay.power, value)
            self.fails(InvalidCount, {"value": value}, relay.power, times=value)

    def test_other_signs(self):
        one, other = Relay("->a", []), Relay("ab", [])
        told, back = {"one": "->a", "other": "ab"}, {"one": "ab", "other": "->a"}
        self.fails(OtherSigns, told, lambda: one * other)
        self.fails(OtherSigns, back, lambda: other * one)
        self.fails(OtherSigns, told, one.is_alike, other)
        self.fails(OtherSigns, back, other.is_alike, other=one)
        self.fails(OtherSigns, told, one.parting_line, other)
        self.fails(OtherSigns, back, other.parting_line, other=one)
        self.fails(OtherSigns, told, one.undoes, other)
        self.fails(OtherSigns, back, other.undoes, other=one)
        self.fails(OtherSigns, {"one": "ab", "other": "ac"}, Relay("ab", []).undoes, Relay("ac", []))
