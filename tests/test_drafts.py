"""Drafts: each change and its errors, and what stands behind a refused one."""

from frontlines.drafts import Draft
from frontlines.errors import (
    InvalidCare,
    InvalidLevel,
    InvalidLook,
    InvalidMark,
    InvalidMarks,
    InvalidRelays,
    InvalidTail,
    LineError,
)
from frontlines.readers import Reader
from frontlines.relays import Relay
from frontlines.schemes import Scheme
from tests.cases import STRANGE, AlwaysEqual, Case
from tests.test_machine_errors import BAD_LINES
from tests.test_readers import BAD_LEVELS, DEEP, WORDS
from tests.test_schemes import PAIR, QUOTE, READER, SAME, SAME_AB, STRIP
from tests.test_writer_errors import BAD_LOOKS, BAD_MARKS, BAD_SIGHTS

SCHEME = Scheme(PAIR, [STRIP, QUOTE], "part")
THREE = Scheme(DEEP, [STRIP], "any")


def put(draft, level, mark):
    draft[level] = mark


def add(draft, relay):
    draft += relay
    return draft


class Changes(Case):
    def test_as_it_was_made(self):
        draft = Draft(SCHEME)
        self.assertEqual(draft.scheme, SCHEME)
        self.assertEqual((len(draft), draft[1], draft[2]), (2, "--", "->"))
        self.assertEqual(Draft(scheme=THREE).scheme, THREE)
        self.assertEqual([len(Draft(scheme)) for scheme in (Scheme(READER, [SAME], "any"), THREE)], [1, 3])
        with self.assertRaises(AttributeError):
            draft.scheme = THREE
        with self.assertRaises(TypeError):
            iter(draft)

    def test_marks(self):
        draft = Draft(SCHEME)
        draft[2] = "a"
        self.assertEqual(draft.scheme, Scheme(Reader("->a", ["--", "a"], ">"), [STRIP, QUOTE], "part"))
        draft[1] = "-" * 12
        self.assertEqual((draft[1], draft[2], draft.scheme.reader.marks()), ("-" * 12, "a", ["-" * 12, "a"]))
        draft[2] = "a"
        draft[1] = "--"
        draft[2] = "->"
        self.assertEqual(draft.scheme, SCHEME)

    def test_levels_away(self):
        for level, marks in ((1, ["--", ">"]), (2, ["-", ">"]), (3, ["-", "--"])):
            draft = Draft(THREE)
            self.assertIsNone(draft.drop(level))
            self.assertEqual((draft.scheme.reader.marks(), len(draft)), (marks, 2))
            cares = draft.scheme.reader.cares()
            self.assertEqual(cares, DEEP.cares())
            draft.drop(level=2)
            self.assertEqual((draft.scheme.reader.marks(), draft[1], len(draft)), (marks[:1], marks[0], 1))
            self.assertEqual(draft.scheme, Scheme(Reader("->a", marks[:1], "-", **cares), [STRIP], "any"))
            for value in (1, 2, 0):
                self.fails(InvalidLevel, {"value": value}, draft.drop, value)
            draft[1] = "aaa"
            self.assertEqual((draft.scheme.reader.marks(), len(draft)), (["aaa"], 1))

    def test_tail_and_cares(self):
        draft = Draft(SCHEME)
        self.assertIsNone(draft.put_tail("a-a"))
        self.assertEqual(draft.scheme.reader.tail, "a-a")
        draft.put_tail(tail=">")
        self.assertEqual(draft.scheme, SCHEME)
        for name, words in WORDS.items():
            for word in words:
                self.assertIsNone(draft.put_care(name, word))
                self.assertEqual(draft.scheme, Scheme(PAIR.with_care(name, word), [STRIP, QUOTE], "part"))
            draft.put_care(word=words[0], name=name)
            self.assertEqual(draft.scheme, SCHEME)
        for look in ("none", "whole", "start", "part", "any"):
            self.assertIsNone(draft.put_care("look", look))
            self.assertEqual(draft.scheme, Scheme(PAIR, [STRIP, QUOTE], look))

    def test_relays(self):
        draft = Draft(SCHEME)
        same = draft
        draft += SAME
        self.assertIs(draft, same)
        self.assertEqual(draft.scheme.relays(), [STRIP, QUOTE, SAME])
        draft += STRIP
        draft += STRIP
        self.assertEqual(draft.scheme, Scheme(PAIR, [STRIP, QUOTE, SAME, STRIP, STRIP], "part"))
        self.assertIsNone(draft.take_away(1))
        self.assertEqual(draft.scheme.relays(), [STRIP, SAME, STRIP, STRIP])
        draft.take_away(number=0)
        draft.take_away(2)
        self.assertEqual(draft.scheme.relays(), [SAME, STRIP])
        draft.take_away(0)
        self.assertEqual(draft.scheme, Scheme(PAIR, [STRIP], "part"))

    def test_schemes_stay(self):
        told = repr(SCHEME)
        draft = Draft(SCHEME)
        schemes = [draft.scheme]
        for change in (lambda: put(draft, 1, "a"), lambda: draft.drop(2), lambda: draft.put_tail("a"),
                       lambda: draft.put_care("look", "any"), lambda: draft.put_care("sight", "start"),
                       lambda: add(draft, SAME), lambda: draft.take_away(0)):
            change()
            schemes.append(draft.scheme)
        kept = [repr(scheme) for scheme in schemes]
        self.assertEqual(kept[0], told)
        self.assertEqual(len(set(kept)), 8)
        draft[1] = "-"
        draft += SAME
        self.assertEqual([repr(scheme) for scheme in schemes], kept)
        self.assertEqual(repr(SCHEME), told)
        found = draft.scheme.relays()
        found.clear()
        self.assertEqual(len(draft.scheme.relays()), 3)


class Wrong(Case):
    def refused(self, error, told, draft, call, *given, **named):
        """The call raises the error, and the draft's scheme stays."""
        before = repr(draft.scheme)
        self.fails(error, told, call, *given, **named)
        self.assertEqual(repr(draft.scheme), before)

    def test_levels(self):
        draft = Draft(THREE)
        for value in BAD_LEVELS:
            told = {"value": value}
            self.refused(InvalidLevel, told, draft, lambda: draft[value])
            self.refused(InvalidLevel, told, draft, put, draft, value, "a")
            self.refused(InvalidLevel, told, draft, put, draft, value, None)
            self.refused(InvalidLevel, told, draft, draft.drop, value)
            self.refused(InvalidLevel, told, draft, draft.drop, level=value)
        self.refused(InvalidLevel, {"value": 3}, Draft(SCHEME), put, Draft(SCHEME), 3, "--")
        one = Draft(Scheme(READER, [SAME], "any"))
        for value in BAD_LEVELS + [1, 2]:
            self.refused(InvalidLevel, {"value": value}, one, one.drop, value)

    def test_marks(self):
        for draft in (Draft(THREE), Draft(SCHEME)):
            for value in BAD_MARKS:
                self.refused(InvalidMark, {"value": value}, draft, put, draft, 1, value)
                self.refused(InvalidMark, {"value": value}, draft, put, draft, 2, value)

    def test_marks_of_other_levels(self):
        marks = ["-", "--", ">"]
        draft = Draft(THREE)
        for level in (1, 2, 3):
            for other in (1, 2, 3):
                if level == other:
                    put(draft, level, marks[other - 1])
                    self.assertEqual(draft.scheme, THREE)
                else:
                    told = {"position": max(level, other) - 1}
                    self.refused(InvalidMarks, told, draft, put, draft, level, marks[other - 1])

    def test_tail(self):
        draft = Draft(SCHEME)
        for value in BAD_LINES + ["", "----", "b", AlwaysEqual()]:
            self.refused(InvalidTail, {"value": value}, draft, draft.put_tail, value)
            self.refused(InvalidTail, {"value": value}, draft, draft.put_tail, tail=value)

    def test_cares(self):
        draft = Draft(SCHEME)
        for name in STRANGE + ["", "Look", "looks", "tail", "mark", "sights", 0, ["look"], ("look",), AlwaysEqual()]:
            for word in ("whole", "any", None):
                told = {"name": name, "value": word}
                self.refused(InvalidCare, told, draft, draft.put_care, name, word)
                self.refused(InvalidCare, told, draft, draft.put_care, word=word, name=name)
        for value in BAD_SIGHTS:
            self.refused(InvalidCare, {"name": "sight", "value": value}, draft, draft.put_care, "sight", value)
        for name in ("order", "further", "finish"):
            for value in STRANGE + ["", "whole", "any", "Inner", 0, ["close"], ("inner",), AlwaysEqual()]:
                self.refused(InvalidCare, {"name": name, "value": value}, draft, draft.put_care, name, value)
        for value in BAD_LOOKS:
            self.refused(InvalidLook, {"value": value}, draft, draft.put_care, "look", value)
            self.refused(InvalidLook, {"value": value}, draft, draft.put_care, word=value, name="look")

    def test_relays_that_are_put(self):
        for many in (1, 2, 4):
            draft = Draft(Scheme(PAIR, [STRIP] * many, "any"))
            for value in STRANGE + ["", 0, [], [STRIP], (STRIP,), READER, SCHEME, SAME_AB, AlwaysEqual(),
                                    Relay("->", []), Relay("->b", []), Relay("-=>a", [])]:
                self.refused(InvalidRelays, {"position": many}, draft, add, draft, value)
        full = Draft(Scheme(PAIR, [STRIP] * 5, "any"))
        for value in STRANGE + ["", STRIP, SAME, SAME_AB, AlwaysEqual()]:
            self.refused(InvalidRelays, {"position": None}, full, add, full, value)

    def test_relays_that_are_taken(self):
        draft = Draft(SCHEME)
        for value in STRANGE + [2, -1, 10 ** 29, "", "0", [0], (0,), STRIP, AlwaysEqual()]:
            self.refused(InvalidRelays, {"position": value}, draft, draft.take_away, value)
            self.refused(InvalidRelays, {"position": value}, draft, draft.take_away, number=value)
        one = Draft(Scheme(PAIR, [STRIP], "any"))
        for value in STRANGE + [1, -1, "0", AlwaysEqual()]:
            self.refused(InvalidRelays, {"position": value}, one, one.take_away, value)
        self.refused(InvalidRelays, {"position": None}, one, one.take_away, 0)

    def test_what_stands_behind_a_refused_change(self):
        draft = Draft(SCHEME)
        for _ in range(3):
            self.assertRaises(LineError, put, draft, 1, "->")
            draft[1] = "a"
            self.assertRaises(LineError, draft.take_away, 2)
            draft.put_tail("-")
            self.assertRaises(LineError, draft.put_care, "look", "-")
            self.assertEqual(draft.scheme, Scheme(Reader("->a", ["a", "->"], "-"), [STRIP, QUOTE], "part"))


class Tried(Case):
    def test_what_the_action_returns(self):
        draft = Draft(SCHEME)
        self.assertEqual(draft.tried_by(lambda given: given.scheme), SCHEME)
        self.assertIs(draft.tried_by(lambda given: given), draft)
        self.assertIsNone(draft.tried_by(action=lambda given: None))
        self.assertEqual(draft.tried_by(len), 2)

    def test_changes_are_taken_back(self):
        draft = Draft(SCHEME)

        def action(given):
            given[1] = "a"
            given.drop(2)
            given += SAME
            given.put_care("look", "any")
            given.put_tail("--")
            given.take_away(0)
            return given.scheme

        found = draft.tried_by(action)
        self.assertEqual(found, Scheme(Reader("->a", ["a"], "--"), [QUOTE, SAME], "any"))
        self.assertEqual(draft.scheme, SCHEME)
        draft[1] = "aa"
        kept = draft.scheme
        self.assertEqual(draft.tried_by(lambda given: given.drop(1)), None)
        self.assertEqual((draft.scheme, len(draft)), (kept, 2))
        # The draft of the action is the one itself, not a copy of it.
        self.assertEqual(draft.tried_by(lambda given: (put(draft, 1, "-"), given[1])), (None, "-"))
        self.assertEqual(draft[1], "aa")

    def test_actions_that_raise(self):
        draft = Draft(SCHEME)

        def own(given):
            given[1] = "a"
            given.take_away(7)

        def other(given):
            given.drop(1)
            raise KeyError("x")

        self.fails(InvalidRelays, {"position": 7}, draft.tried_by, own)
        self.assertEqual(draft.scheme, SCHEME)
        self.assertRaises(KeyError, draft.tried_by, other)
        self.assertEqual(draft.scheme, SCHEME)

    def test_nested(self):
        draft = Draft(SCHEME)

        def inner(given):
            given[2] = "aa"
            return given.scheme.reader.marks()

        def outer(given):
            given[1] = "a"
            first = given.tried_by(inner)
            between = given.scheme.reader.marks()
            self.fails(InvalidLevel, {"value": 9}, given.tried_by, lambda each: put(each, 9, "-"))
            given.drop(2)
            return first, between, given.tried_by(lambda each: len(each)), given.scheme.reader.marks()

        self.assertEqual(draft.tried_by(outer), (["a", "aa"], ["a", "->"], 1, ["a"]))
        self.assertEqual(draft.scheme, SCHEME)

    def test_other_drafts_stay_changed(self):
        one, other = Draft(SCHEME), Draft(SCHEME)
        one.tried_by(lambda given: (put(given, 1, "a"), put(other, 1, "aa")))
        self.assertEqual((one[1], other[1]), ("--", "aa"))
