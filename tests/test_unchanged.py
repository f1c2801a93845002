"""Nothing that was passed is changed, what was returned is new, and a repeated call returns an equal result."""

import copy

from frontlines import alike, breaks, chains, claims, texts, trees
from frontlines.desk import Desk
from frontlines.drafts import Draft
from frontlines.errors import LineError, OtherReaders, TooMany
from frontlines.machines import Machine
from frontlines.readers import Reader
from frontlines.relays import Relay
from frontlines.schemes import Scheme
from frontlines.writers import Writer, safe_looks
from tests.cases import Case


class Machines(Case):
    def setUp(self):
        self.rows = [[1, 2, 0], (2, 1, 1), [2, 0, 2]]
        self.ends = [2, 0]
        self.machine = Machine("->a", self.rows, self.ends)

    def test_passed(self):
        self.assertEqual((self.rows, self.ends), ([[1, 2, 0], (2, 1, 1), [2, 0, 2]], [2, 0]))
        lines = ["a", "", "a", "--"]
        Machine.of_lines("->a", lines)
        self.assertEqual(lines, ["a", "", "a", "--"])

    def test_copied(self):
        before = repr(self.machine)
        self.rows[0][1] = 0
        self.rows.append((0, 0, 0))
        self.ends.clear()
        self.assertEqual(repr(self.machine), before)
        self.assertIn("", self.machine)

    def test_returned(self):
        rows, ends = self.machine.rows(), self.machine.ends()
        for call in (self.machine.rows, self.machine.ends, lambda: self.machine.first_lines(5)):
            first = call()
            kept = copy.deepcopy(first)
            first.append("x")
            first[0] = None
            self.assertEqual(call(), kept)
        self.assertEqual(self.machine, Machine("->a", rows, ends))

    def test_operators(self):
        other = Machine.having("->a", "a-")
        before = (repr(self.machine), repr(other))
        for call in (
            lambda: self.machine | other, lambda: self.machine & other, lambda: self.machine - other,
            lambda: -self.machine, lambda: self.machine.unlike_line(other), lambda: self.machine.is_within(other),
            lambda: self.machine.how_many(9), lambda: self.machine.first_lines(9), lambda: self.machine.first_line(),
            lambda: self.machine.is_finite(), lambda: "a-" in self.machine, lambda: repr(self.machine),
            lambda: self.machine == other, lambda: self.machine.states,
        ):
            self.assertEqual(call(), call())
            self.assertEqual((repr(self.machine), repr(other)), before)

    def test_shared_results(self):
        found = -self.machine
        found.rows().clear()
        found.ends().clear()
        self.assertEqual(-found, self.machine)

    def test_errors_change_nothing(self):
        before = repr(self.machine)
        for call in (lambda: self.machine.how_many(401), lambda: self.machine.first_lines(-1),
                     lambda: self.machine.how_many(True), lambda: self.machine.first_lines(201)):
            self.assertRaises((LineError, TooMany), call)
            self.assertEqual(repr(self.machine), before)

    def test_properties_cannot_be_assigned(self):
        with self.assertRaises(AttributeError):
            self.machine.signs = "ab"
        with self.assertRaises(AttributeError):
            self.machine.states = 3


class Relays(Case):
    def setUp(self):
        self.rules = [("front", ">", ""), ("whole", "-", "a"), ("front", ">", "-")]
        self.relay = Relay("->a", self.rules)

    def test_passed_and_copied(self):
        kept = list(self.rules)
        self.assertEqual(self.rules, kept)
        self.rules.clear()
        self.assertEqual(self.relay.rules(), kept)
        self.assertEqual(self.relay(">>"), ">")

    def test_returned(self):
        for call in (self.relay.rules, self.relay.table):
            kept = list(call())
            call().clear()
            self.assertEqual(call(), kept)
        self.assertEqual(self.relay(">>"), ">")

    def test_calls(self):
        other = Relay("->a", [("front", "-", ">-"), ("front", ">", ">>")])
        before = (repr(self.relay), repr(other))
        for call in (
            lambda: self.relay * other, lambda: other * self.relay, lambda: self.relay.power(3), other.undoing,
            lambda: self.relay.is_alike(other), lambda: self.relay.parting_line(other), self.relay.joined_lines,
            lambda: other.undoes(self.relay), self.relay.undoing, lambda: self.relay(">>"), self.relay.table,
            lambda: repr(self.relay), lambda: self.relay == other,
        ):
            self.assertEqual(call(), call())
            self.assertEqual((repr(self.relay), repr(other)), before)

    def test_products_are_relays_of_their_own(self):
        found = self.relay * Relay("->a", [])
        found.rules().clear()
        self.assertEqual(found, self.relay * Relay("->a", []))
        self.assertIs(found.__class__, Relay)

    def test_errors_change_nothing(self):
        before = repr(self.relay)
        for call in (lambda: self.relay.power(61), lambda: self.relay.power(-1), lambda: self.relay("b")):
            self.assertRaises((LineError, TooMany), call)
            self.assertEqual(repr(self.relay), before)

    def test_property_cannot_be_assigned(self):
        with self.assertRaises(AttributeError):
            self.relay.signs = "ab"


class AnyChain(Case):
    def setUp(self):
        self.relays = [Relay("->a", [("front", ">", "")]), Relay("->a", [("front", "a", "--")])]
        self.machine = Machine.of_lines("->a", ["--", "a"])
        self.chain = [0, 1, 0]

    def calls(self):
        relays, machine = self.relays, self.machine
        return [
            lambda: chains.before(relays, machine), lambda: chains.after(relays, machine),
            lambda: chains.before_one(relays[0], machine), lambda: chains.after_one(relays[1], machine),
            lambda: chains.steps(relays, ">>a", machine), lambda: chains.chain_to(relays, ">>--", machine),
            lambda: chains.turned(relays, ">a", self.chain), lambda: list(chains.walked(relays, ">a", self.chain)),
            lambda: chains.is_chain(relays, ">a", machine, self.chain), lambda: chains.is_closed(relays, machine),
            lambda: chains.is_barrier(relays, "-", machine, machine), lambda: safe_looks(relays, "--", "whole"),
        ]

    def test_nothing_is_changed(self):
        before = repr((self.relays, self.machine, self.chain))
        for call in self.calls():
            self.assertEqual(call(), call())
            self.assertEqual(repr((self.relays, self.machine, self.chain)), before)

    def test_what_was_returned_is_new(self):
        for call in (lambda: chains.chain_to(self.relays, ">>--", self.machine),
                     lambda: safe_looks(self.relays, "--", "whole")):
            kept = list(call())
            call().clear()
            self.assertEqual(call(), kept)
        known = chains.before(self.relays, self.machine)
        known.rows().clear()
        self.assertEqual(chains.before(self.relays, self.machine), known)

    def test_errors_change_nothing(self):
        before = repr((self.relays, self.machine))
        for call in (lambda: chains.steps(self.relays, "b", self.machine), lambda: chains.before([], self.machine),
                     lambda: chains.chain_to(self.relays, ">" * 201 + "--", self.machine)):
            self.assertRaises((LineError, TooMany), call)
            self.assertEqual(repr((self.relays, self.machine)), before)


class Objects(Case):
    """Writers, readers and schemes."""

    def setUp(self):
        self.relays = [Relay("->a", [("front", ">", "")]), Relay("->a", [("front", "a", "--")])]
        self.marks = ["--", "->"]
        self.body = ["a", "--"]
        self.reader = Reader("->a", self.marks, ">", sight="start")

    def look(self, made, calls):
        """The calls return equal things twice, which can be changed, and change neither the object nor the lists."""
        before = repr((made, self.relays, self.marks, self.body))
        for call in calls:
            kept = copy.deepcopy(call())
            found = call()
            if isinstance(found, (list, dict)):
                found.clear()
            self.assertEqual(call(), kept)
            self.assertEqual(repr((made, self.relays, self.marks, self.body)), before)

    def test_writers(self):
        for look in ("whole", "any"):
            writer = Writer(self.relays, "whole", look)
            self.look(writer, [
                writer.relays, lambda: writer.seen("--"), lambda: writer.barred("--"), lambda: writer.is_safe("--"),
                lambda: writer.first_unsafe("--"), lambda: writer.safe_sets("--"), lambda: writer.unsafe_sets("--"),
                lambda: writer.lets("--", self.body), lambda: writer.choice(self.marks, self.body),
                lambda: writer.sorts(self.marks), lambda: writer.least_full_body(self.marks),
                lambda: writer.count_let(self.marks, 3), lambda: repr(writer), lambda: writer == 1,
            ])

    def test_readers(self):
        reader, role = self.reader, ("end", 1)
        self.look(reader, [
            reader.marks, reader.cares, reader.roles, lambda: reader[1], lambda: reader.line_of(role),
            lambda: reader.sees(role), lambda: reader.asked(2), lambda: reader.taken(role, 2),
            lambda: reader.role_at("-->", 2), lambda: reader.with_care("order", "outer"), lambda: repr(reader),
        ])

    def test_schemes(self):
        for look in ("whole", "any"):
            scheme = Scheme(self.reader, self.relays, look)
            self.look(scheme, [
                scheme.relays, scheme.barred, lambda: scheme.lets("-"), lambda: scheme.is_kept(("next", 1)),
                scheme.is_clear, scheme.is_sound, scheme.faults, scheme.first_fault, scheme.sound_sets,
                lambda: scheme.reader, lambda: repr(scheme),
            ])

    def test_copied(self):
        writer, scheme = Writer(self.relays, "whole", "any"), Scheme(self.reader, self.relays, "any")
        before = repr((writer, scheme, self.reader))
        self.relays.clear()
        self.marks.append("a")
        self.assertEqual(repr((writer, scheme, self.reader)), before)
        self.assertEqual((writer.is_safe("--"), scheme.is_clear(), self.reader.depth), (True, True, 2))

    def test_errors_change_nothing(self):
        writer, scheme = Writer(self.relays, "whole", "any"), Scheme(self.reader, self.relays, "any")
        before = repr((writer, scheme))
        for call in (lambda: writer.count_let(["-"], 401), lambda: writer.lets("-", ["b"]), lambda: scheme.lets("b"),
                     lambda: scheme.is_kept(("end", 9)), lambda: self.reader[0], lambda: self.reader.with_care("x", 0)):
            self.assertRaises((LineError, TooMany), call)
            self.assertEqual(repr((writer, scheme)), before)

    def test_properties_cannot_be_assigned(self):
        writer, scheme = Writer(self.relays, "whole", "any"), Scheme(self.reader, self.relays, "any")
        for made, names in ((writer, "signs sight look"), (scheme, "reader look signs"),
                            (self.reader, "signs tail depth sight order further finish")):
            for name in names.split():
                with self.assertRaises(AttributeError):
                    setattr(made, name, "a")
        with self.assertRaises(TypeError):
            self.reader[1] = "a"


class Messages(Case):
    """Trees, messages, ways and readers held together."""

    def setUp(self):
        self.relays = [Relay("->a", [("front", ">", "")]), Relay("->a", [("front", "a", "--")])]
        self.reader = Reader("->a", ["--", "->"], ">")
        self.other = self.reader.with_care("finish", "close")
        self.scheme = Scheme(self.reader, self.relays, "whole")
        self.tree = [[["a", ""], []], ()]
        self.message = ["--", "->", "a", "->>", "-->"]
        self.chain = [0, 1, 0]
        self.way = ([[[">->"]]], [0])
        self.machine = Machine.of_lines("->a", ["--", "a"])

    def told(self):
        return repr((self.relays, self.reader, self.other, self.scheme, self.tree, self.message, self.chain, self.way,
                     self.machine))

    def calls(self):
        reader, other, scheme = self.reader, self.other, self.scheme
        return [
            lambda: trees.is_tree(reader, self.tree), lambda: trees.written(reader, self.tree),
            lambda: trees.own_telling(reader, self.tree), lambda: trees.telling(reader, self.message),
            lambda: trees.course(reader, self.message), lambda: trees.tree_read(reader, self.message),
            lambda: trees.goes_wrong(scheme, self.tree, self.chain), lambda: trees.wrong_way(scheme),
            lambda: trees.is_wrong_way(scheme, self.way), lambda: breaks.pieces("->a", "a->-a", 2),
            lambda: breaks.coming(self.relays, 2, self.machine), lambda: breaks.first_coming(scheme, 2),
            lambda: breaks.are_numbers_right(scheme, 2), lambda: breaks.first_longer(scheme, 2),
            lambda: breaks.is_coming_way(self.relays, 2, ">a", self.machine, self.chain),
            lambda: alike.can_be_held(reader, other), lambda: alike.line_views(reader, other),
            lambda: alike.is_unlike_at(reader, other, self.message), lambda: alike.are_alike(reader, other),
            lambda: alike.unlike_message(reader, self.reader.with_care("sight", "start")),
        ]

    def emptied(self, value):
        """Takes away all that a value holds, and all within it."""
        for part in value if isinstance(value, (list, tuple)) else ():
            self.emptied(part)
        if isinstance(value, list):
            value.clear()

    def test_nothing_is_changed_and_what_was_returned_is_new(self):
        before = self.told()
        for call in self.calls():
            kept = copy.deepcopy(call())
            self.emptied(call())
            self.assertEqual(call(), kept)
            self.assertEqual(self.told(), before)

    def test_a_tree_that_is_read_is_new(self):
        found = trees.tree_read(self.reader, self.message)
        self.assertEqual(found, [[["a"]]])
        found[0][0].append("b")
        found[0].append([])
        self.assertEqual(trees.tree_read(self.reader, self.message), [[["a"]]])

    def test_errors_change_nothing(self):
        before = self.told()
        for call in (lambda: trees.written(self.reader, [[["a"], ["b"]]]), lambda: trees.telling(self.reader, ["a", 0]),
                     lambda: trees.goes_wrong(self.scheme, self.tree, [0, 2]), lambda: breaks.first_longer(self.scheme, 5),
                     lambda: breaks.coming(self.relays + [None], 2, self.machine)):
            self.assertRaises(LineError, call)
            self.assertEqual(self.told(), before)
        self.assertRaises(OtherReaders, alike.are_alike, self.reader, Reader("->a", ["--"], ">"))
        self.assertEqual(self.told(), before)


class TextsAndClaims(Case):
    def setUp(self):
        reader = Reader("->a", ["--", "->"], ">")
        self.scheme = Scheme(reader, [Relay("->a", [("front", ">", "")]), Relay("->a", [])], "whole")
        self.text = texts.text_of(self.scheme)
        tight = texts.text_of(Scheme(reader, self.scheme.relays(), "any"))
        start = texts.text_of(Scheme(reader.with_care("sight", "start"), self.scheme.relays(), "any"))
        self.claims = [
            {"claim": "turned", "scheme": self.text, "line": ">>--", "role": ("next", 1)},
            {"claim": "never", "scheme": self.text, "line": "a", "role": ("end", 2)},
            {"claim": "sound", "scheme": tight}, {"claim": "unsound", "scheme": self.text},
            {"claim": "alike", "scheme": self.text, "other": tight},
            {"claim": "unlike", "scheme": self.text, "other": start},
        ]

    def test_texts(self):
        before = repr(self.scheme)
        self.assertEqual(texts.text_of(self.scheme), self.text)
        self.assertEqual(texts.read_scheme(self.text), texts.read_scheme(self.text))
        self.assertIsNot(texts.read_scheme(self.text), texts.read_scheme(self.text))
        self.assertEqual(repr(self.scheme), before)

    def emptied(self, value):
        for part in value if isinstance(value, (list, tuple)) else ():
            self.emptied(part)
        if isinstance(value, list):
            value.clear()

    def test_claims_and_papers(self):
        for claim in self.claims:
            kept = copy.deepcopy(claim)
            paper = claims.paper_for(claim)
            same = copy.deepcopy(paper)
            self.assertIs(claims.is_paper(claim, paper), True)
            self.assertIs(claims.is_true(claim), True)
            self.assertEqual((claim, paper), (kept, same))
            self.emptied(claims.paper_for(claim))
            self.assertEqual(claims.paper_for(claim), same)
            self.assertIs(claims.is_paper(claim, paper), True)

    def test_a_draft_and_a_desk_keep_what_was_passed(self):
        before = repr(self.scheme)
        draft, table = Draft(self.scheme), Desk(self.scheme)
        draft.put_tail("a")
        draft.take_away(0)
        table.do_all("relay", "mark 1 a", "rule 2 whole a _")
        self.assertEqual(repr(self.scheme), before)
        given = [Relay("->a", [])]
        draft += given[0]
        given.clear()
        self.assertEqual(len(draft.scheme.relays()), 2)
        told = draft.scheme
        draft.scheme.relays().clear()
        self.assertEqual(draft.scheme, told)
        commands = ["cut 0", "undo"]
        self.assertEqual(table.do_all(*commands), ["0", "cut 0"])
        self.assertEqual(commands, ["cut 0", "undo"])
        answers = table.do_all("sound", "tell")
        answers.clear()
        self.assertEqual(len(table.do_all("sound", "tell")), 2)
