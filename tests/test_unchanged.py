"""Nothing that was passed is changed, what was returned is new, and a repeated call returns an equal result."""

import copy

from frontlines.errors import LineError, TooMany
from frontlines.machines import Machine
from frontlines.relays import Relay
from tests.cases import Case


class Machines(Case):
    def setUp(self):
        self.rows = [[1, 2, 0], (2, 1, 1), [2, 0, 2]]
        self.ends = [2, 0]
        self.machine = Machine("->a", self.rows, self.ends)

    def test_passed(self):
        self.assertEqual((self.rows, self.ends), ([[1, 2, 0], (2, 1, 1), [2, 0, 2]], [2, 0]))
        lines = ["a", "", "a", "--"]
        Machine.of_lines("->a", lines)
        self.assertEqual(lines, ["a", "", "a", "--"])

    def test_copied(self):
        before = repr(self.machine)
        self.rows[0][1] = 0
        self.rows.append((0, 0, 0))
        self.ends.clear()
        self.assertEqual(repr(self.machine), before)
        self.assertIn("", self.machine)

    def test_returned(self):
        rows, ends = self.machine.rows(), self.machine.ends()
        for call in (self.machine.rows, self.machine.ends, lambda: self.machine.first_lines(5)):
            first = call()
            kept = copy.deepcopy(first)
            first.append("x")
            first[0] = None
            self.assertEqual(call(), kept)
        self.assertEqual(self.machine, Machine("->a", rows, ends))

    def test_operators(self):
        other = Machine.having("->a", "a-")
        before = (repr(self.machine), repr(other))
        for call in (
            lambda: self.machine | other, lambda: self.machine & other, lambda: self.machine - other,
            lambda: -self.machine, lambda: self.machine.unlike_line(other), lambda: self.machine.is_within(other),
            lambda: self.machine.how_many(9), lambda: self.machine.first_lines(9), lambda: self.machine.first_line(),
            lambda: self.machine.is_finite(), lambda: "a-" in self.machine, lambda: repr(self.machine),
            lambda: self.machine == other, lambda: self.machine.states,
        ):
            self.assertEqual(call(), call())
            self.assertEqual((repr(self.machine), repr(other)), before)

    def test_shared_results(self):
        found = -self.machine
        found.rows().clear()
        found.ends().clear()
        self.assertEqual(-found, self.machine)

    def test_errors_change_nothing(self):
        before = repr(self.machine)
        for call in (lambda: self.machine.how_many(401), lambda: self.machine.first_lines(-1),
                     lambda: self.machine.how_many(True), lambda: self.machine.first_lines(201)):
            self.assertRaises((LineError, TooMany), call)
            self.assertEqual(repr(self.machine), before)

    def test_properties_cannot_be_assigned(self):
        with self.assertRaises(AttributeError):
            self.machine.signs = "ab"
        with self.assertRaises(AttributeError):
            self.machine.states = 3


class Relays(Case):
    def setUp(self):
        self.rules = [("front", ">", ""), ("whole", "-", "a"), ("front", ">", "-")]
        self.relay = Relay("->a", self.rules)

    def test_passed_and_copied(self):
        kept = list(self.rules)
        self.assertEqual(self.rules, kept)
        self.rules.clear()
        self.assertEqual(self.relay.rules(), kept)
        self.assertEqual(self.relay(">>"), ">")

    def test_returned(self):
        for call in (self.relay.rules, self.relay.table):
            kept = list(call())
            call().clear()
            self.assertEqual(call(), kept)
        self.assertEqual(self.relay(">>"), ">")

    def test_calls(self):
        other = Relay("->a", [("front", "-", ">-"), ("front", ">", ">>")])
        before = (repr(self.relay), repr(other))
        for call in (
            lambda: self.relay * other, lambda: other * self.relay, lambda: self.relay.power(3), other.undoing,
            lambda: self.relay.is_alike(other), lambda: self.relay.parting_line(other), self.relay.joined_lines,
            lambda: other.undoes(self.relay), self.relay.undoing, lambda: self.relay(">>"), self.relay.table,
            lambda: repr(self.relay), lambda: self.relay == other,
        ):
            self.assertEqual(call(), call())
            self.assertEqual((repr(self.relay), repr(other)), before)

    def test_products_are_relays_of_their_own(self):
        found = self.relay * Relay("->a", [])
        found.rules().clear()
        self.assertEqual(found, self.relay * Relay("->a", []))
        self.assertIs(found.__class__, Relay)

    def test_errors_change_nothing(self):
        before = repr(self.relay)
        for call in (lambda: self.relay.power(61), lambda: self.relay.power(-1), lambda: self.relay("b")):
            self.assertRaises((LineError, TooMany), call)
            self.assertEqual(repr(self.relay), before)

    def test_property_cannot_be_assigned(self):
        with self.assertRaises(AttributeError):
            self.relay.signs = "ab"
