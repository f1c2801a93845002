"""Desks: each command, each way in which it can be wrong, and long rows of commands against a plain desk."""

import random

from frontlines.desk import Desk
from frontlines.errors import (
    CommandFailed,
    InvalidCare,
    InvalidCommand,
    InvalidLevel,
    InvalidLook,
    InvalidMark,
    InvalidMarks,
    InvalidRelays,
    InvalidRules,
    LimitError,
    LineError,
    NothingToUndo,
    StateError,
    TooMany,
)
from frontlines.readers import Reader
from frontlines.relays import Relay
from frontlines.schemes import Scheme
from frontlines.texts import read_scheme, text_of
from tests import brute, slow, told
from tests.cases import STRANGE, AlwaysEqual, Case
from tests.test_schemes import PAIR, QUOTE, READER, SAME, STRIP
from tests.test_trees import by_steps

LOOSE = Scheme(READER, [STRIP], "whole")
TWO = Scheme(PAIR, [STRIP, QUOTE], "part")
NO_COMMANDS = STRANGE + [0, 1, [], ["relay"], ("relay",), AlwaysEqual(), b"relay"] + [
    "", " ", "x", "Relay", "relays", " relay", "relay ", "relay relay", "relay 0", "relay\n", "\nrelay", "relay  ", "_",
    "rule", "rule 0", "rule 0 front", "rule 0 front -", "rule 0 front - a a", "rule 5 front - a", "rule -1 front - a",
    "rule 00 front - a", "rule a front - a", "rule _ front - a", "rule 0 Front - a", "rule 0 part - a", "rule 0 _ - a",
    "rule 0 front b a", "rule 0 front - b", "rule 0 front  a", "rule 0 front a ", "rule 0 front __ a", "rule 0 front a_ a",
    f"rule 0 front {'-' * 41} a", f"rule 0 whole - {'a' * 41}", "rule front 0 - a", "rule 0  front - a", "rule 0 front -\na",
    "cut", "cut 5", "cut 9", "cut -1", "cut 0 0", "cut a", "cut 00", "cut _", "cut 0 ", " cut 0", "cut  0",
    "mark", "mark 1", "mark 0 a", "mark 10 a", "mark a a", "mark 1 b", "mark 1 a a", "mark 1 ", "mark 1  a", "mark -1 a",
    "mark _ a", "mark 1 __", "mark a 1", "mark 1 a ", "mark 12 a", "mark 123 a", "mark 01 a",
    "care", "care sight", "care sights whole", "care tail a", "care sight whole whole", "care  sight whole", "care Look any",
    "care sight ", "care sight  whole", "care look", "care any look", "care _ any", "care mark a", "care look any\n",
    "care look a\nb", "care sight\n whole", "care look \n",
    "undo 1", "undo ", " undo", "Undo", "undo undo",
    "turn", "turn b", "turn a 5", "turn a 0 5", "turn a 01", "turn a -1", "turn a _", "turn a a", "turn 0", "turn a 0 ",
    "turn  0", "turn a  0", "turn __", "turn a b",
    "sound ", "sound 1", " sound", "sounds", "sound yes",
    "tell ", "tell b", "tell a b", "tell  a", "tell a ", "tell a  a", "tell __", "tell a,", "tell 1", "tells", "Tell a",
]


class Commands(Case):
    def test_relay_and_rules(self):
        desk = Desk(LOOSE)
        self.assertEqual(desk.scheme, LOOSE)
        self.assertEqual(desk.do("relay"), "1")
        self.assertEqual(desk.do("relay"), "2")
        self.assertEqual(desk.scheme, Scheme(READER, [STRIP, SAME, SAME], "whole"))
        self.assertEqual(desk.do("rule 1 front - >-"), "1")
        self.assertEqual(desk.do("rule 1 front > >>"), "2")
        self.assertEqual(desk.do(command="rule 0 whole _ _"), "2")
        self.assertEqual(desk.do(f"rule 0 front {'-' * 40} {'a' * 40}"), "3")
        rules = [("front", ">", ""), ("whole", "", ""), ("front", "-" * 40, "a" * 40)]
        self.assertEqual(desk.scheme, Scheme(READER, [Relay("->a", rules), QUOTE, SAME], "whole"))
        self.assertEqual(desk.do("cut 0"), "2")
        self.assertEqual(desk.do("cut 1"), "1")
        self.assertEqual(desk.do("cut 1"), "0")
        self.assertEqual(desk.scheme, Scheme(READER, [Relay("->a", rules[:2]), SAME, SAME], "whole"))
        self.assertEqual(desk.log(), [
            "relay", "relay", "rule 1 front - >-", "rule 1 front > >>", "rule 0 whole _ _",
            f"rule 0 front {'-' * 40} {'a' * 40}", "cut 0", "cut 1", "cut 1"])

    def test_marks_and_cares(self):
        desk = Desk(TWO)
        self.assertEqual(desk.do("mark 2 aa"), "done")
        self.assertEqual(desk.scheme.reader, Reader("->a", ["--", "aa"], ">"))
        self.assertEqual(desk.do(f"mark 1 {'>' * 12}"), "done")
        self.assertEqual(desk.scheme, Scheme(Reader("->a", [">" * 12, "aa"], ">"), TWO.relays(), "part"))
        reader = desk.scheme.reader
        for name, word in (("sight", "start"), ("sight", "-"), ("order", "outer"), ("further", "close"),
                           ("finish", "close"), ("sight", "whole")):
            self.assertEqual(desk.do(f"care {name} {word}"), "done")
            reader = reader.with_care(name, word)
            self.assertEqual(desk.scheme.reader, reader)
        for look in slow.LOOKS:
            self.assertEqual(desk.do(f"care look {look}"), "done")
            self.assertEqual(desk.scheme, Scheme(reader, TWO.relays(), look))

    def test_turn(self):
        desk = Desk(TWO)
        for command, answer in (("turn >>-- 0 0", "--"), ("turn >>--", ">>--"), ("turn _", "_"), ("turn > 0", "_"),
                                ("turn > 0 0 0", "_"), ("turn -- 1 1 0", ">--"), ("turn a 1 0 1", "a")):
            self.assertEqual(desk.do(command), answer)
        self.assertEqual(desk.do("turn -" + " 1" * 1000), ">" * 1000 + "-")
        self.assertEqual(desk.do(f"turn {'>' * 41}{'a' * 41} 0"), ">" * 40 + "a" * 41)
        self.assertEqual(desk.log(), [])

    def test_sound(self):
        self.assertEqual(Desk(LOOSE).do("sound"), "no body 0 >-- 1")
        self.assertEqual(Desk(Scheme(READER, [STRIP], "any")).do("sound"), "yes")
        self.assertEqual(Desk(Scheme(PAIR, [QUOTE], "any")).do("sound"), "no next 1 -- 1")
        lose = Relay("->a", [("front", "->>", "")])
        self.assertEqual(Desk(Scheme(PAIR, [lose], "any")).do("sound"), "no end 2 ->> 1")
        empty = Relay("->a", [("whole", "", "-->")])
        self.assertEqual(Desk(Scheme(READER, [empty], "part")).do("sound"), "no body 0 _ 1")
        self.assertEqual(Desk(Scheme(READER, [SAME], "none")).do("sound"), "no body 0 -- 0")
        self.assertEqual(Desk(by_steps([90])).do("sound"), f"no body 0 _ {2 ** 91}")

    def test_tell(self):
        desk = Desk(TWO)
        for command, answer in (
            ("tell -- -> a _ ->> -->", "next 1, next 2, line, line, end 2, end 1"), ("tell -->", "end 1"),
            ("tell", "refused"), ("tell a", "refused"), ("tell -- -> a", "refused"), ("tell _", "refused"),
            ("tell --> a", "refused"), ("tell -- -> -- -->", "refused"),
        ):
            self.assertEqual(desk.do(command), answer)
        self.assertEqual(desk.do(f"tell -- -> {'a' * 41} ->> -->"), "next 1, next 2, line, end 2, end 1")
        desk.do("care finish close")
        for command, answer in (("tell", "-"), ("tell -- -> _", "next 1, next 2, line"), ("tell a", "refused"),
                                ("tell --", "next 1")):
            self.assertEqual(desk.do(command), answer)
        desk.do("care further close")
        self.assertEqual(desk.do("tell -- -> -- -->"), "next 1, next 2, next 1, end 1")
        self.assertEqual(desk.log(), ["care finish close", "care further close"])

    def test_undo(self):
        for command in ("relay", "rule 1 front a _", "cut 0", "mark 2 a", "care sight start", "care look any",
                        "mark 1 --", "care order inner", "care look part"):
            desk = Desk(TWO)
            desk.do(command)
            self.assertEqual(desk.log(), [command])
            self.assertEqual(desk.do("undo"), command)
            self.assertEqual((desk.scheme, desk.log()), (TWO, []))
            self.fails(NothingToUndo, {}, desk.do, "undo")

    def test_undo_several_times(self):
        desk = Desk(LOOSE)
        commands = ["relay", "mark 1 --", "mark 1 --", "rule 1 whole a _", "care look any", "cut 1", "cut 0"]
        schemes = [desk.scheme]
        for command in commands:
            desk.do(command)
            schemes.append(desk.scheme)
        desk.do("sound")
        for many in range(len(commands), 0, -1):
            self.assertEqual(desk.scheme, schemes[many])
            self.assertEqual(desk.log(), commands[:many])
            self.assertEqual(desk.do("undo"), commands[many - 1])
            if many == 4:
                # What is done behind an undo is taken back first; an undo itself is not.
                desk.do("care finish close")
                self.assertEqual(desk.log(), commands[:3] + ["care finish close"])
                self.assertEqual(desk.do("undo"), "care finish close")
        self.assertEqual((desk.scheme, desk.log()), (LOOSE, []))
        for _ in range(2):
            self.fails(NothingToUndo, {}, desk.do, "undo")
        self.assertEqual(desk.do("relay"), "1")

    def test_only_the_five_are_taken_back(self):
        desk = Desk(LOOSE)
        for command in ("turn a", "sound", "tell"):
            desk.do(command)
            self.fails(NothingToUndo, {}, desk.do, "undo")
        self.assertRaises(LineError, desk.do, "mark 9 a")
        self.fails(NothingToUndo, {}, desk.do, "undo")


class Wrong(Case):
    def refused(self, error, attributes, desk, command):
        before = repr((desk.scheme, desk.log()))
        self.fails(error, attributes, desk.do, command)
        self.fails(error, attributes, desk.do, command=command)
        self.assertEqual(repr((desk.scheme, desk.log())), before)

    def test_no_commands(self):
        desk = Desk(LOOSE)
        for many in range(5):
            for value in NO_COMMANDS:
                self.refused(InvalidCommand, {"value": value}, desk, value)
            if many < 4:
                desk.do("relay")

    def test_numbers(self):
        desk = Desk(TWO)
        for command, number in (
            ("rule 2 front - a", 2), ("rule 4 front - a", 4), ("cut 2", 2), ("cut 3", 3), ("turn a 2", 2), ("turn a 0 3 2", 3),
            ("turn _ 1 1 4", 4),
        ):
            self.refused(InvalidRelays, {"position": number}, desk, command)
        # What is no command at all is told first.
        self.refused(InvalidCommand, {"value": "turn a 3 5"}, desk, "turn a 3 5")
        self.refused(InvalidCommand, {"value": "rule 3 front b a"}, desk, "rule 3 front b a")

    def test_limits(self):
        desk = Desk(Scheme(READER, [STRIP] * 4, "any"))
        self.assertEqual(desk.do("relay"), "4")
        self.refused(InvalidRelays, {"position": None}, desk, "relay")
        self.refused(InvalidRules, {"position": None}, desk, "cut 4")
        self.assertEqual(desk.do("cut 3"), "0")
        self.refused(InvalidRules, {"position": None}, desk, "cut 3")
        full = Desk(Scheme(READER, [Relay("->a", [("front", "a", "")] * 399)], "any"))
        self.assertEqual(full.do("rule 0 front - _"), "400")
        self.refused(TooMany, {"what": "rules", "limit": 400}, full, "rule 0 front - _")
        self.assertEqual(full.do("cut 0"), "399")
        self.assertEqual(full.do("rule 0 whole _ -"), "400")
        self.refused(TooMany, {"what": "steps", "limit": 10 ** 30}, Desk(by_steps([150])), "sound")

    def test_marks_and_cares(self):
        desk = Desk(TWO)
        for level in range(3, 10):
            self.refused(InvalidLevel, {"value": level}, desk, f"mark {level} a")
        self.refused(InvalidLevel, {"value": 3}, desk, "mark 3 _")
        self.refused(InvalidMark, {"value": ""}, desk, "mark 1 _")
        self.refused(InvalidMark, {"value": "-" * 13}, desk, f"mark 2 {'-' * 13}")
        self.refused(InvalidMark, {"value": "-" * 99}, desk, f"mark 2 {'-' * 99}")
        self.refused(InvalidMarks, {"position": 1}, desk, "mark 1 ->")
        self.refused(InvalidMarks, {"position": 1}, desk, "mark 2 --")
        for name, word in (("sight", "part"), ("sight", "_"), ("sight", "b"), ("order", "refuse"), ("further", "inner"),
                           ("finish", "closes"), ("order", "0")):
            self.refused(InvalidCare, {"name": name, "value": word}, desk, f"care {name} {word}")
        for word in ("a", "Any", "_", "inner", "0", "x!?"):
            self.refused(InvalidLook, {"value": word}, desk, f"care look {word}")

    def test_property(self):
        with self.assertRaises(AttributeError):
            Desk(TWO).scheme = TWO


class Rows(Case):
    def test_answers(self):
        desk = Desk(LOOSE)
        self.assertEqual(desk.do_all(), [])
        self.assertEqual(desk.do_all("relay", "undo", "sound"), ["1", "relay", "no body 0 >-- 1"])
        self.assertEqual(desk.do_all("relay"), ["1"])
        self.assertEqual(desk.do_all("rule 1 front a _", "turn aa 1", "cut 1"), ["1", "a", "0"])
        self.assertEqual(desk.log(), ["relay", "rule 1 front a _", "cut 1"])

    def failed(self, desk, position, error, attributes, *commands):
        scheme, done = desk.scheme, desk.log()
        with self.assertRaises(CommandFailed) as caught:
            desk.do_all(*commands)
        self.assertIs(caught.exception.__class__, CommandFailed)
        self.assertEqual(caught.exception.position, position)
        cause = caught.exception.__cause__
        self.assertIs(cause.__class__, error)
        for name, value in attributes.items():
            self.assertEqual(getattr(cause, name), value)
        self.assertEqual((desk.scheme, desk.log()), (scheme, done))

    def test_failures(self):
        desk = Desk(LOOSE)
        desk.do_all("relay", "care look any")
        for ahead in ([], ["relay"], ["undo", "undo", "mark 1 a"], ["undo", "relay", "cut 0", "undo", "undo", "relay"]):
            for behind in ([], ["undo"], ["x", "mark 9 a"]):
                at = len(ahead)
                self.failed(desk, at, InvalidCommand, {"value": "x"}, *ahead, "x", *behind)
                self.failed(desk, at, InvalidCommand, {"value": 7}, *ahead, 7, *behind)
                self.failed(desk, at, InvalidLevel, {"value": 2}, *ahead, "mark 2 -", *behind)
                self.failed(desk, at, InvalidLook, {"value": "a"}, *ahead, "care look a", *behind)
                self.failed(desk, at, InvalidRelays, {"position": 4}, *ahead, "turn a 4", *behind)
        self.failed(desk, 2, NothingToUndo, {}, "undo", "undo", "undo", "relay")
        self.failed(desk, 3, InvalidRelays, {"position": None}, "relay", "relay", "relay", "relay")
        # What was done before can be taken back as before.
        self.assertEqual(desk.do_all("undo", "undo"), ["care look any", "relay"])
        self.assertEqual((desk.scheme, desk.log()), (LOOSE, []))

    def test_limits(self):
        desk = Desk(by_steps([150]))
        self.failed(desk, 1, TooMany, {"what": "steps", "limit": 10 ** 30}, "relay", "sound", "relay")
        full = Desk(Scheme(READER, [Relay("->a", [("front", "a", "")] * 400)], "any"))
        self.failed(full, 2, TooMany, {"what": "rules", "limit": 400}, "cut 0", "undo", "rule 0 front a _")

    def test_values_of_any_kind(self):
        for value in STRANGE + [0, [], ["relay"], AlwaysEqual()]:
            desk = Desk(LOOSE)
            self.fails(CommandFailed, {"position": 1}, desk.do_all, "relay", value, "relay")
            self.assertEqual((desk.scheme, desk.log()), (LOOSE, []))

    def test_log_is_new(self):
        desk = Desk(LOOSE)
        desk.do_all("relay", "cut 0")
        desk.log().clear()
        desk.log().append("x")
        self.assertEqual(desk.log(), ["relay", "cut 0"])


class Plain:
    """A desk that keeps the lines of the text, and makes the scheme anew each time."""

    def __init__(self, scheme):
        self.rows, self.done = text_of(scheme).split("\n")[:-1], []

    def scheme(self):
        return read_scheme("".join(f"{row}\n" for row in self.rows))

    def at(self, kind, number):
        """The place of the line of this number, of this kind."""
        return [place for place, row in enumerate(self.rows) if row.split(" ")[0] == kind][number]

    def do(self, command):
        name, *words = command.split(" ")
        kept, scheme = list(self.rows), self.scheme()
        relays = [relay.rules() for relay in scheme.relays()]
        answer = "done"
        if name == "undo":
            command, self.rows = self.done.pop()
            return command
        if name == "turn":
            return told.turned(relays, words[0].strip("_"), map(int, words[1:])) or "_"
        if name == "tell":
            found = told.read(scheme.reader, [word.strip("_") for word in words])[1]
            return "refused" if found is None else ", ".join(
                f"{word} {level}".replace("line 0", "line") for word, level in found) or "-"
        if name == "sound":
            fault = scheme.first_fault()
            return "yes" if fault is None else " ".join(
                ["no", *map(str, ("body", 0) if fault[0] == "body" else fault[0]), fault[1] or "_", str(fault[2])])
        if name == "relay":
            self.rows.insert(self.at("mark", 0), "relay")
            answer = str(len(relays))
        if name == "rule":
            place = self.at("relay", int(words[0]))
            self.rows[place] = " ".join([self.rows[place], *words[1:]])
            answer = str(len(relays[int(words[0])]) + 1)
        if name == "cut":
            place = self.at("relay", int(words[0]))
            answer = str(len(relays[int(words[0])]) - 1)
            self.rows[place] = self.rows[place].rsplit(" ", 3)[0]
        if name == "mark":
            self.rows[self.at("mark", int(words[0]) - 1)] = f"mark {words[1]}"
        if name == "care":
            self.rows[self.at(words[0], 0)] = " ".join(words)
        self.done.append((command, kept))
        return answer


def some_command(source, signs):
    """Any command, most of them right."""
    lines = ["_"] + brute.lines_up_to(signs, 2)[1:]
    number, line = str(source.randrange(source.choice([2, 2, 5]))), source.choice(lines)
    return " ".join(source.choice([
        ["relay"], ["rule", number, source.choice(["front", "whole"]), line, source.choice(lines)],
        ["rule", number, "front", line, "_"], ["cut", number], ["mark", str(source.randrange(1, 4)), line],
        ["care", source.choice(["order", "further", "finish", "look", "sight"]),
         source.choice(["inner", "outer", "refuse", "close", "whole", "start", "any", signs[0]])],
        ["undo"], ["undo"], ["turn", line, number, number, "0"], ["sound"], ["tell", *source.sample(lines, 4)],
        ["tell"], ["tell", line, line],
    ]))


class LongRows(Case):
    def test_against_a_plain_desk(self):
        done = wrong = 0
        for seed in range(12):
            source = random.Random(seed)
            reader = told.some_reader(source)
            scheme = Scheme(reader, [Relay(reader.signs, [("front", reader.signs[0], "")])], source.choice(slow.LOOKS))
            desk, plain = Desk(scheme), Plain(scheme)
            for _ in range(200):
                command = some_command(source, reader.signs)
                before = repr(desk.scheme)
                try:
                    answer = desk.do(command)
                except (LineError, StateError, LimitError):
                    wrong = wrong + 1
                    self.assertEqual(repr(desk.scheme), before)
                    continue
                self.assertEqual(answer, plain.do(command), (seed, command))
                self.assertEqual(desk.scheme, plain.scheme())
                self.assertEqual(desk.log(), [each for each, _ in plain.done])
                done = done + 1
        self.assertGreater(done, 1000)
        self.assertGreater(wrong, 200)

    def test_rows_at_once(self):
        failed = 0
        for seed in range(150):
            source = random.Random(seed)
            desk, other = Desk(TWO), Desk(TWO)
            commands = [some_command(source, "->a") for _ in range(12)]
            answers, error = [], None
            for command in commands:
                try:
                    answers.append(other.do(command))
                except (LineError, StateError, LimitError) as each:
                    error = each
                    break
            if error is None:
                self.assertEqual(desk.do_all(*commands), answers)
                self.assertEqual((desk.scheme, desk.log()), (other.scheme, other.log()))
            else:
                failed = failed + 1
                with self.assertRaises(CommandFailed) as caught:
                    desk.do_all(*commands)
                self.assertEqual(caught.exception.position, len(answers))
                self.assertEqual(repr(caught.exception.__cause__), repr(error))
                self.assertEqual((desk.scheme, desk.log()), (TWO, []))
        self.assertGreater(failed, 50)
        self.assertLess(failed, 150)
