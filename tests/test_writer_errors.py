"""The errors and limits of writers: which values are not valid, which error comes first, and what has no limit."""

import random

from frontlines.errors import (
    InvalidBody,
    InvalidCount,
    InvalidLook,
    InvalidMark,
    InvalidMarks,
    InvalidRelays,
    InvalidSight,
    TooMany,
)
from frontlines.relays import Relay
from frontlines.writers import Writer, safe_looks
from tests.cases import STRANGE, AlwaysEqual, Case
from tests.test_chain_errors import BAD_RELAYS, STRIP, STRIP_ANY, code, doubling
from tests.test_machine_errors import BAD_COUNTS, BAD_LINES
from tests.test_relay_limits import many_rules

BAD_MARKS = BAD_LINES + ["", "-" * 13, "b", AlwaysEqual()]
BAD_SIGHTS = STRANGE + ["", "Whole", "starts", "part", "any", "none", "b", "--", "->a", " ", 0, 1, ["whole"], ("-",),
                        ["-"], AlwaysEqual()]
BAD_LOOKS = STRANGE + ["", "Any", "-", "a", "wholes", "start ", 0, 1, ["any"], ("any",), AlwaysEqual()]
STATES = {"what": "states", "limit": 300}
GROUPS = {"what": "groups", "limit": 2000}
SIGNS = {"what": "signs", "limit": 400}
STEPS = {"what": "steps", "limit": 10 ** 30}


class Made(Case):
    def test_relays(self):
        for value, position in BAD_RELAYS:
            self.fails(InvalidRelays, {"position": position}, Writer, value, "whole", "any")
            self.fails(InvalidRelays, {"position": position}, Writer, look=0, sight=0, relays=value)
            self.fails(InvalidRelays, {"position": position}, safe_looks, value, "-", "whole")
            self.fails(InvalidRelays, {"position": position}, safe_looks, sight=0, mark=0, relays=value)

    def test_sight(self):
        for value in BAD_SIGHTS:
            self.fails(InvalidSight, {"value": value}, Writer, [STRIP], value, "any")
            self.fails(InvalidSight, {"value": value}, Writer, look=None, sight=value, relays=[STRIP])
            self.fails(InvalidSight, {"value": value}, safe_looks, [STRIP], "-", value)
            self.fails(InvalidSight, {"value": value}, safe_looks, sight=value, mark="-", relays=[STRIP])
        self.fails(InvalidSight, {"value": "a"}, Writer, [Relay("-b", [])], "a", "any")

    def test_look(self):
        for value in BAD_LOOKS:
            self.fails(InvalidLook, {"value": value}, Writer, [STRIP], "whole", value)
            self.fails(InvalidLook, {"value": value}, Writer, look=value, sight="-", relays=[STRIP])

    def test_mark_comes_before_sight(self):
        for value in BAD_MARKS:
            self.fails(InvalidMark, {"value": value}, safe_looks, [STRIP], value, "part")
            self.fails(InvalidMark, {"value": value}, safe_looks, relays=[STRIP], mark=value, sight="whole")

    def test_right_values(self):
        for relays in ([STRIP], (STRIP,), [STRIP] * 5):
            for sight in ("whole", "start", "-", ">", "a"):
                for look in ("none", "whole", "start", "part", "any"):
                    self.assertEqual(Writer(relays, sight, look).look, look)
                self.assertEqual(safe_looks(relays, "-" * 12, sight)[-1], "any")


class Called(Case):
    def writers(self):
        return [Writer([STRIP], sight, look) for sight in ("whole", "start", "-") for look in ("none", "part", "any")]

    def test_mark(self):
        for writer in self.writers():
            calls = [writer.seen, writer.barred, writer.is_safe, writer.first_unsafe, writer.safe_sets,
                     writer.unsafe_sets]
            for value in BAD_MARKS:
                for call in calls:
                    self.fails(InvalidMark, {"value": value}, call, value)
                    self.fails(InvalidMark, {"value": value}, call, mark=value)
                self.fails(InvalidMark, {"value": value}, writer.lets, value, None)
                self.fails(InvalidMark, {"value": value}, writer.lets, body=[], mark=value)
            for call in calls:
                call("-" * 12)

    def test_body(self):
        for writer in self.writers()[:3]:
            for value in STRANGE + ["", "-", 0, AlwaysEqual()]:
                told = {"position": None}
                self.fails(InvalidBody, told, writer.lets, "-", value)
                self.fails(InvalidBody, told, writer.choice, ["-"], value)
                self.fails(InvalidBody, told, writer.choice, body=value, marks=("-",))
            for value in BAD_LINES + [AlwaysEqual()]:
                self.fails(InvalidBody, {"position": 0}, writer.lets, "-", [value])
                self.fails(InvalidBody, {"position": 2}, writer.lets, body=("-", "", value, None), mark="-")
                self.fails(InvalidBody, {"position": 0}, writer.choice, ["-"], (value, 0))
                self.fails(InvalidBody, {"position": 1}, writer.choice, ["-", ">"], ["-", value])

    def test_marks(self):
        six = ["-", "a", ">", "--", "aa", ">>"]
        for writer in self.writers()[:3]:
            calls = [lambda marks: writer.choice(marks, None), writer.sorts, writer.least_full_body,
                     lambda marks: writer.count_let(marks, -1), lambda marks: writer.count_let(size=401, marks=marks)]
            for call in calls:
                for value in STRANGE + ["", "-", 0, [], (), six, tuple(six), AlwaysEqual()]:
                    self.fails(InvalidMarks, {"position": None}, call, value)
                for value in BAD_MARKS + [["-"]]:
                    self.fails(InvalidMarks, {"position": 0}, call, [value, value])
                    self.fails(InvalidMarks, {"position": 2}, call, ("-", "a", value, "-"))
                self.fails(InvalidMarks, {"position": 1}, call, ["-", "-", "b"])
                self.fails(InvalidMarks, {"position": 4}, call, ["-", "a", ">", "--", "a"])
                self.fails(InvalidMarks, {"position": 3}, call, ("-", "a", ">", "", "-"))
            self.assertEqual(writer.count_let(six[:5], 0), 1)
            self.fails(InvalidMarks, {"position": None}, writer.sorts, marks=None)
            self.fails(InvalidMarks, {"position": None}, writer.least_full_body, marks="ab")

    def test_size(self):
        writer = Writer([STRIP], "whole", "part")
        for value in BAD_COUNTS + [AlwaysEqual()]:
            self.fails(InvalidCount, {"value": value}, writer.count_let, ["-"], value)
            self.fails(InvalidCount, {"value": value}, writer.count_let, size=value, marks=["-"])


def far_sign(size):
    """Relays by which just the lines of "a" and "b" become ">" whose "a" has just so many signs behind it."""
    count = [("front", ">" * at + sign, ">" * (at - 1)) for at in range(2, size + 2) for sign in "ab"]
    return [Relay(">ab", [("front", "a", ""), ("front", "b", "")]), Relay(">ab", [("front", "a", ">" * (size + 1))]),
            Relay(">ab", count)]


def residuals(lines):
    """How many groups the lines make: for each beginning of one what may stand behind it, and nothing."""
    behind = {}
    for line in lines:
        for size in range(len(line) + 1):
            behind.setdefault(line[:size], set()).add(line[size:])
    return len({frozenset(ends) for ends in behind.values()}) + 1


def with_groups(many):
    """A relay that makes lines the mark "-" so that they and the mark make just so many groups."""
    source = random.Random(3)
    lines = ["-"]
    for _ in range(many // 35 - 5):
        lines.append("".join(source.choice("->") for _ in range(40)))
    while residuals(lines) < many:
        line = "".join(source.choice("->") for _ in range(40))
        sizes = [size for size in range(2, 41) if residuals(lines + [line[:size]]) <= many]
        lines.append(line[:sizes[-1]])
    return Relay("->", [("whole", line, "-") for line in lines[1:]])


class Limits(Case):
    def test_barred(self):
        self.assertEqual(Writer(far_sign(6), "whole", "any").barred(">").states < 301, True)
        for size in (9, 10, 20, 38):
            self.fails(TooMany, STATES, Writer(far_sign(size), "whole", "any").barred, ">")
            self.assertEqual(Writer(far_sign(size), "whole", "part").barred(">").states, 2)

    def test_what_has_no_limit_of_states(self):
        for size in (9, 20, 38):
            relays = far_sign(size)
            writer = Writer(relays, "whole", "any")
            self.assertIs(writer.is_safe(">"), True)
            self.assertIsNone(writer.first_unsafe(">"))
            self.assertIs(writer.lets(">", ["b" * 50, "a" * size]), True)
            self.assertIs(writer.lets(">", ["b" * 50, "b" * 30 + "a" + "b" * size]), False)
            self.assertEqual(writer.choice([">", "a"], ["a" * (size + 1)]), None)
            self.assertEqual(writer.choice([">", ">" * 3], ["b" + "a" * size]), ">")
            self.assertEqual(writer.safe_sets(">"), [(0, 1, 2)])
            self.assertEqual(safe_looks(relays, ">", "whole"), ["any"])
            self.assertEqual(Writer(relays, "whole", "whole").safe_sets(">"), [(1,)])
            self.assertEqual(Writer(relays, "whole", "part").first_unsafe(">"), ("a" * (size + 1), size + 1))

    def test_groups(self):
        few = Writer(far_sign(8), "whole", "any")
        self.assertEqual(few.sorts([">"]), [((), ""), ((0,), ">")])
        self.assertEqual(few.least_full_body([">"]), [">"])
        self.assertEqual(few.count_let([">"], 12) > 0, True)
        for size in (11, 12, 25, 38):
            writer = Writer(far_sign(size), "whole", "any")
            for marks in ([">"], ["a", ">"], (">", "b", "a")):
                self.fails(TooMany, GROUPS, writer.sorts, marks)
                self.fails(TooMany, GROUPS, writer.least_full_body, marks=marks)
                self.fails(TooMany, GROUPS, writer.count_let, marks, 400)

    def test_2000_groups(self):
        for many in (1999, 2000):
            writer = Writer([with_groups(many)], "whole", "any")
            self.assertEqual(writer.sorts(["-"]), [((), ""), ((0,), "-")])
            self.assertEqual(writer.count_let(["-"], 1), 1)
            self.assertEqual(writer.least_full_body(["-"]), ["-"])
        writer = Writer([with_groups(2001)], "whole", "any")
        self.fails(TooMany, GROUPS, writer.sorts, ["-"])
        self.fails(TooMany, GROUPS, writer.count_let, ["-"], 400)
        self.fails(TooMany, GROUPS, writer.least_full_body, ["-"])

    def test_groups_of_several_marks(self):
        # Each mark has fewer than 2000 groups of its own, and so has the first one with any other one of them.
        writer = Writer([with_groups(1900)], "whole", "any")
        self.assertEqual(writer.sorts(["-", ">"])[:3], [((), ""), ((0,), "-"), ((1,), ">")])
        self.fails(TooMany, GROUPS, Writer([with_groups(1990)], "whole", "any").sorts, 
                   ["-", ">" * 12, "->" * 6, ">-" * 6, "-" * 12])

    def test_signs_come_before_groups(self):
        for look in ("part", "any"):
            writer = Writer(far_sign(20), "whole", look)
            for size in (401, 402, 10 ** 29):
                self.fails(TooMany, SIGNS, writer.count_let, [">"], size)
                self.fails(TooMany, SIGNS, writer.count_let, size=size, marks=(">", "a"))

    def test_plain_looks_have_few_groups(self):
        marks = ["-" * 12, ">" * 12, "a" * 12, "->" * 6, "a-" * 6]
        for look in ("none", "whole", "start", "part"):
            writer = Writer([STRIP], "whole", look)
            self.assertEqual(writer.sorts(marks)[0], ((), ""))
            self.assertEqual(writer.count_let(marks, 11), 3 ** 11)

    def test_steps(self):
        relay = Relay("-.=>", doubling(198).rules()[:-1] + [("whole", code(0), "-"), ("front", code(0), "")])
        lines = [("whole", "", code(150))]
        writer = Writer([relay, Relay("-.=>", lines)], "whole", "whole")
        self.fails(TooMany, STEPS, writer.first_unsafe, "-")
        self.assertIs(writer.is_safe("-"), False)
        self.assertEqual(writer.safe_sets("-"), [(1,)])
        self.assertEqual(safe_looks(writer.relays(), "-", "whole"), ["any"])
        fewer = Writer([relay, Relay("-.=>", [("whole", "", code(90))])], "whole", "whole")
        self.assertEqual(fewer.first_unsafe("-"), ("", 2 ** 91))

    def test_large_tables(self):
        relay = Relay("-.=>", many_rules())
        writer = Writer([relay], "whole", "whole")
        self.assertEqual(writer.first_unsafe("--"), ("", 2))
        self.assertEqual(Writer([relay], "whole", "any").sorts(["--"]), [((0,), ""), ((), ".")])

    def test_a_large_barred_machine_of_few_states(self):
        writer = Writer([STRIP_ANY], "start", "any")
        self.assertEqual(writer.barred("a" * 12).states, 13)
        self.assertEqual(writer.count_let(["a" * 12], 11), 2 ** 11)
