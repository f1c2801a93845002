"""What readers tell, held against a plain look at short lines, and their errors."""

import random
from itertools import product

from frontlines.errors import (
    InvalidCare,
    InvalidLevel,
    InvalidLine,
    InvalidMarks,
    InvalidRole,
    InvalidSigns,
    InvalidTail,
)
from frontlines.machines import Machine
from frontlines.readers import Reader
from tests import brute, slow
from tests.cases import STRANGE, AlwaysEqual, Case
from tests.test_machine_errors import BAD_LINES, BAD_SIGNS
from tests.test_writer_errors import BAD_MARKS, BAD_SIGHTS

PAIR = Reader("->a", ["--", "->"], ">")
DEEP = Reader("->a", ["-", "--", ">"], "-", sight="start", order="outer", further="close", finish="close")
WORDS = {"sight": ["whole", "start", "-", ">", "a"], "order": ["inner", "outer"], "further": ["refuse", "close"],
         "finish": ["refuse", "close"]}
BAD_LEVELS = STRANGE + [0, -1, 4, 10 ** 29, "", "1", [1], (1,), AlwaysEqual()]
BAD_ROLES = STRANGE + [
    "", "next", 1, ["next", 1], ("next",), ("next", 1, 1), (1, "next"), ("Next", 1), ("body", 1), ("line", 0),
    ("next", 0), ("next", -1), ("next", 4), ("end", 5), ("next", True), ("end", "1"), ("end", None), (None, 1),
    (AlwaysEqual(), 1), ("next", AlwaysEqual()), (("next",), 1), ("next", [1]), (b"next", 1), [("next", 1)], AlwaysEqual(),
]


class Plain(Case):
    def test_properties(self):
        self.assertEqual((PAIR.signs, PAIR.tail, PAIR.depth), ("->a", ">", 2))
        self.assertEqual((PAIR.sight, PAIR.order, PAIR.further, PAIR.finish), ("whole", "inner", "refuse", "refuse"))
        self.assertEqual((DEEP.signs, DEEP.tail, DEEP.depth), ("->a", "-", 3))
        self.assertEqual((DEEP.sight, DEEP.order, DEEP.further, DEEP.finish), ("start", "outer", "close", "close"))
        self.assertEqual((PAIR.marks(), DEEP.marks()), (["--", "->"], ["-", "--", ">"]))
        self.assertEqual(list(DEEP.cares().items()),
                         [("sight", "start"), ("order", "outer"), ("further", "close"), ("finish", "close")])

    def test_repr(self):
        self.assertEqual(repr(Reader("->a", ["--", "->"], "-")), "Reader('->a', ['--', '->'], '-', sight='whole', "
                         "order='inner', further='refuse', finish='refuse')")
        self.assertEqual(repr(DEEP), "Reader('->a', ['-', '--', '>'], '-', sight='start', order='outer', "
                         "further='close', finish='close')")

    def test_marks_by_level(self):
        self.assertEqual([PAIR[1], PAIR[2]], ["--", "->"])
        self.assertEqual([DEEP[level] for level in (1, 2, 3)], ["-", "--", ">"])
        for value in BAD_LEVELS:
            self.fails(InvalidLevel, {"value": value}, lambda: DEEP[value])
        self.fails(InvalidLevel, {"value": 3}, lambda: PAIR[3])
        self.fails(InvalidLevel, {"value": 2}, lambda: Reader("ab", ["a"], "b")[2])
        with self.assertRaises(TypeError):
            iter(PAIR)

    def test_tuples_and_names(self):
        made = Reader(finish="refuse", tail=">", marks=("--", "->"), signs="->a", order="inner")
        self.assertEqual(made, PAIR)
        self.assertIs(made.marks().__class__, list)
        with self.assertRaises(TypeError):
            Reader("->a", ["--"], ">", "whole")

    def test_equal(self):
        self.assertTrue(PAIR == Reader("->a", ("--", "->"), ">"))
        self.assertFalse(PAIR != Reader("->a", ("--", "->"), ">"))
        others = [Reader("->a", ["->", "--"], ">"), Reader("->a", ["--"], ">"), Reader("->a", ["--", "->"], ">>"),
                  Reader("->b", ["--", "->"], ">"), Reader("->", ["--", "->"], ">")]
        others.extend(PAIR.with_care(name, words[1]) for name, words in WORDS.items())
        for other in others + [None, 1, "", PAIR.marks(), repr(PAIR), Machine.every("->a")]:
            self.assertTrue(PAIR != other)
            self.assertFalse(PAIR == other)

    def test_most_and_least(self):
        self.assertEqual(Reader("ab", ["a" * 12, "b", "ab"], "bab").tail, "bab")
        self.assertEqual(Reader("ab", ["a"], "b").depth, 1)


class Wrong(Case):
    def test_signs(self):
        for value in BAD_SIGNS + [AlwaysEqual()]:
            self.fails(InvalidSigns, {"value": value}, Reader, value, ["a"], "b")
            self.fails(InvalidSigns, {"value": value}, Reader, finish=0, tail=0, marks=0, signs=value)

    def test_marks(self):
        for value in STRANGE + ["", "a", 0, [], (), ["a", "b", "aa", "ab"], ("a",) * 4, AlwaysEqual()]:
            self.fails(InvalidMarks, {"position": None}, Reader, "ab", value, "b")
            self.fails(InvalidMarks, {"position": None}, Reader, "ab", value, None, sight=0)
        for value in BAD_MARKS[1:] + [["-"]]:
            self.fails(InvalidMarks, {"position": 0}, Reader, "->a", [value], ">")
            self.fails(InvalidMarks, {"position": 1}, Reader, "->a", ("-", value, "-"), "")
        self.fails(InvalidMarks, {"position": 1}, Reader, "->a", ["-", "-", ""], ">")
        self.fails(InvalidMarks, {"position": 2}, Reader, marks=["-", "a", "-"], tail=5, signs="->a")

    def test_tail(self):
        for value in BAD_LINES + ["", "----", "b", AlwaysEqual()]:
            self.fails(InvalidTail, {"value": value}, Reader, "->a", ["-"], value)
            self.fails(InvalidTail, {"value": value}, Reader, order=0, tail=value, marks=("-",), signs="->a")
        for value in ("-", "->", "->a", "---"):
            self.assertEqual(Reader("->a", ["-"], value).tail, value)

    def test_cares(self):
        wrong = {name: STRANGE + ["", "Inner", "whole ", 0, 1, [], ["inner"], ("close",), AlwaysEqual()]
                 for name in WORDS}
        wrong["sight"] = BAD_SIGHTS
        for name, other in (("order", "refuse"), ("order", "whole"), ("further", "inner"), ("further", "a"),
                            ("finish", "outer"), ("sight", "inner"), ("sight", "close"), ("order", "-")):
            wrong[name] = wrong[name] + [other]
        for name, values in wrong.items():
            for value in values:
                told = {"name": name, "value": value}
                self.fails(InvalidCare, told, Reader, "->a", ["-"], ">", **{name: value})
                self.fails(InvalidCare, told, PAIR.with_care, name, value)
                self.fails(InvalidCare, told, PAIR.with_care, value=value, name=name)

    def test_first_wrong_care(self):
        names = list(WORDS)
        for one, other in product(names, names):
            if names.index(one) < names.index(other):
                self.fails(InvalidCare, {"name": one, "value": None}, Reader, "->a", ["-"], ">", **{other: 0, one: None})

    def test_names_of_cares(self):
        for name in STRANGE + ["", "Sight", "look", "tail", "marks", "signs", 0, ("sight",), AlwaysEqual()]:
            for value in ("whole", "refuse", None, AlwaysEqual()):
                self.fails(InvalidCare, {"name": name, "value": value}, PAIR.with_care, name, value)

    def test_roles(self):
        for value in BAD_ROLES:
            told = {"value": value}
            self.fails(InvalidRole, told, DEEP.line_of, value)
            self.fails(InvalidRole, told, DEEP.line_of, role=value)
            self.fails(InvalidRole, told, DEEP.sees, value)
            self.fails(InvalidRole, told, DEEP.sees, role=value)
            self.fails(InvalidRole, told, DEEP.taken, value, 3)
            self.fails(InvalidRole, told, DEEP.taken, level=None, role=value)
        self.fails(InvalidRole, {"value": ("next", 3)}, PAIR.line_of, ("next", 3))

    def test_levels(self):
        for value in BAD_LEVELS:
            told = {"value": value}
            self.fails(InvalidLevel, told, DEEP.asked, value)
            self.fails(InvalidLevel, told, DEEP.asked, level=value)
            self.fails(InvalidLevel, told, DEEP.taken, ("next", 1), value)
            self.fails(InvalidLevel, told, DEEP.taken, level=value, role=("end", 1))
            self.fails(InvalidLevel, told, DEEP.role_at, "-", value)
            self.fails(InvalidLevel, told, DEEP.role_at, level=value, line="")
        for word in ("next", "end"):
            for role, level in ((2, 1), (3, 1), (3, 2)):
                self.fails(InvalidLevel, {"value": level}, DEEP.taken, (word, role), level)

    def test_line(self):
        for value in BAD_LINES + [AlwaysEqual()]:
            self.fails(InvalidLine, {"value": value}, DEEP.role_at, value, 1)
            self.fails(InvalidLine, {"value": value}, DEEP.role_at, level=0, line=value)


class Roles(Case):
    def test_roles_and_lines(self):
        self.assertEqual(DEEP.roles(), [("next", 1), ("end", 1), ("next", 2), ("end", 2), ("next", 3), ("end", 3)])
        self.assertEqual([DEEP.line_of(role) for role in DEEP.roles()], ["-", "--", "--", "---", ">", ">-"])
        self.assertEqual(Reader("ab", ["a" * 12], "bbb").line_of(role=("end", 1)), "a" * 12 + "bbb")

    def test_asked(self):
        self.assertEqual(PAIR.asked(1), [("end", 1), ("next", 1)])
        self.assertEqual(PAIR.asked(2), [("end", 2), ("next", 2), ("end", 1), ("next", 1)])
        self.assertEqual(DEEP.asked(level=2), [("end", 1), ("next", 1), ("end", 2), ("next", 2)])
        self.assertEqual([level for _, level in DEEP.asked(3)], [1, 1, 2, 2, 3, 3])

    def test_with_care(self):
        for name, words in WORDS.items():
            for word in words:
                made = PAIR.with_care(name, word)
                self.assertIs(made.__class__, Reader)
                self.assertEqual(made, Reader("->a", ["--", "->"], ">", **{name: word}))
                self.assertEqual({**PAIR.cares(), name: word}, made.cares())
        self.assertEqual(PAIR.with_care(value="a", name="sight").sight, "a")
        self.assertEqual(PAIR.sight, "whole")

    def test_against_lines(self):
        for seed in range(100):
            source = random.Random(seed)
            signs = source.choice(["ab", "->a"])
            lines = brute.lines_up_to(signs, 5 if signs == "ab" else 4)
            marks = source.sample([line for line in lines if 0 < len(line) < 3], source.randrange(1, 4))
            tail = source.choice([line for line in lines if 0 < len(line) < 3])
            sight, order = source.choice(["whole", "start", *signs]), source.choice(["inner", "outer"])
            reader = Reader(signs, marks, tail, sight=sight, order=order, finish=source.choice(WORDS["finish"]))
            self.assertEqual(reader.roles(), slow.roles(marks))
            for role in reader.roles():
                line = slow.role_line(marks, tail, role)
                self.assertEqual(reader.line_of(role), line)
                seen = reader.sees(role)
                self.assertIs(seen.__class__, Machine)
                self.assertEqual([each for each in lines if each in seen],
                                 [each for each in lines if slow.sees(sight, line, each)], seed)
            for level in range(1, len(marks) + 1):
                found = {line: slow.taken(marks, tail, sight, order, line, level) for line in lines}
                self.assertEqual({line: reader.role_at(line, level) for line in lines}, found)
                for role in slow.roles(marks[:level]):
                    taken = reader.taken(role, level)
                    self.assertIs(taken.__class__, Machine)
                    self.assertEqual([line for line in lines if line in taken],
                                     [line for line in lines if found[line] == role], seed)

    def test_marks_that_begin_another(self):
        for order, wanted in (("inner", ("next", 2)), ("outer", ("next", 1))):
            reader = Reader("->a", ["-", "--"], ">", sight="start", order=order)
            self.assertEqual(reader.role_at("--", 2), wanted)
            self.assertEqual(reader.role_at("--", 1), ("next", 1))
            self.assertEqual(reader.role_at("->a", 2), ("end", 1))
        self.assertEqual(Reader("->a", ["-", "--"], ">", sight="start").role_at("-->", 2), ("end", 2))
        self.assertEqual(Reader("->a", ["-", "--"], ">", sight="start", order="outer").role_at("-->", 2), ("next", 1))

    def test_a_tail_that_makes_another_mark(self):
        reader = Reader("->a", ["-", "->"], ">")
        self.assertEqual([reader.role_at("->", 1), reader.role_at("->", 2)], [("end", 1), ("next", 2)])
        outer = reader.with_care("order", "outer")
        self.assertEqual(outer.role_at("->", 2), ("end", 1))
        self.assertEqual(outer.taken(("next", 2), 2), Machine.nothing("->a"))
        self.assertEqual(reader.taken(("end", 1), 2), Machine.nothing("->a"))
        self.assertEqual(reader.taken(("end", 1), 1), Machine.of_lines("->a", ["->"]))

    def test_a_sight_that_is_the_sign_of_the_tail(self):
        reader = Reader("->a", ["-"], ">", sight=">")
        self.assertEqual([reader.role_at(line, 1) for line in ("-", "->", "->>", "->a", ">")],
                         [("next", 1), ("end", 1), ("end", 1), None, None])
        self.assertEqual(reader.taken(("next", 1), 1), Machine.of_lines("->a", ["-"]))

    def test_long_lines(self):
        reader = Reader("->a", ["-" * 12], "---", sight="-")
        self.assertEqual(reader.role_at("-" * 20000, 1), ("end", 1))
        self.assertEqual(reader.role_at("-" * 14, 1), ("next", 1))
        self.assertIsNone(reader.role_at("-" * 19999 + ">", 1))

    def test_the_largest_readers_have_no_limit(self):
        marks = ["-" * 12, "-" * 11 + ">", "-" * 11 + "a"]
        for sight, order in product(WORDS["sight"], WORDS["order"]):
            reader = Reader("->a", marks, "---", sight=sight, order=order)
            for role in reader.roles():
                self.assertIn(reader.line_of(role), reader.taken(role, 3))
