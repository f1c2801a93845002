"""Texts of schemes: what is told is read again, and each way in which a line can be wrong."""

import random
import re

from frontlines.errors import InvalidText
from frontlines.readers import Reader
from frontlines.relays import Relay
from frontlines.schemes import Scheme
from frontlines.texts import read_scheme, text_of
from tests import brute, slow, told
from tests.cases import STRANGE, AlwaysEqual, Case
from tests.test_schemes import PAIR, READER, SAME, STRIP

FULL = (
    "signs ->a\nrelay front > _ whole _ a\nrelay\nmark --\nmark ->\ntail >a\nsight whole\norder inner\nfurther refuse\n"
    "finish close\nlook part\n"
)
ROWS = FULL.split("\n")[:-1]


def text(rows):
    return "".join(f"{row}\n" for row in rows)


def some_scheme(source):
    """Any scheme with small parts."""
    reader = told.some_reader(source)
    rules = [brute.random_rules(source, reader.signs, 4, 3) for _ in range(source.randrange(1, 6))]
    return Scheme(reader, [Relay(reader.signs, each) for each in rules], source.choice(slow.LOOKS))


def first_wrong(value):
    """The number of the first line that is wrong, told by what may follow each line; None."""
    rows = value.split("\n")
    rest = rows.pop()
    behind = {None: ["signs"], "signs": ["relay"], "relay": ["relay", "mark"], "mark": ["mark", "tail"],
              "tail": ["sight"], "sight": ["order"], "order": ["further"], "further": ["finish"], "finish": ["look"],
              "look": []}
    last, signs, many, marks = None, "", 0, []
    for number, row in enumerate(rows, 1):
        kind = row.partition(" ")[0]
        if kind not in behind[last] or (kind, many) == ("relay", 5) or (kind == "mark" and len(marks) == 3):
            return number
        line = f"[{re.escape(signs)}]"
        short = f"(_|{line}{{1,40}})"
        forms = {
            "signs": "signs ([a-z0-9.=>|-]{2,4})", "relay": f"relay(( (front|whole) {short} {short}){{0,400}})",
            "mark": f"mark ({line}{{1,12}})", "tail": f"tail {line}{{1,3}}", "sight": f"sight (whole|start|{line})",
            "order": "order (inner|outer)", "further": "further (refuse|close)", "finish": "finish (refuse|close)",
            "look": "look (none|whole|start|part|any)",
        }
        found = re.fullmatch(forms[kind], row)
        if not found:
            return number
        if kind == "signs":
            signs = found.group(1)
            if sorted(set(signs)) != list(signs):
                return number
        if kind == "mark":
            if found.group(1) in marks:
                return number
            marks.append(found.group(1))
        many, last = many + (kind == "relay"), kind
    return None if last == "look" and rest == "" else len(rows) + 1


class Told(Case):
    def test_by_hand(self):
        scheme = Scheme(Reader("->a", ["--", "->"], ">a", finish="close"),
                        [Relay("->a", [("front", ">", ""), ("whole", "", "a")]), SAME], "part")
        self.assertEqual(text_of(scheme), FULL)
        self.assertEqual(text_of(scheme=scheme), FULL)
        self.assertEqual(read_scheme(FULL), scheme)
        self.assertEqual(read_scheme(text=FULL), scheme)
        self.assertEqual(text_of(Scheme(READER, [STRIP], "any")), "signs ->a\nrelay front > _\nmark --\ntail >\n"
                         "sight whole\norder inner\nfurther refuse\nfinish refuse\nlook any\n")

    def test_what_is_told_is_read(self):
        for seed in range(300):
            scheme = some_scheme(random.Random(seed))
            found = read_scheme(text_of(scheme))
            self.assertEqual(found, scheme, seed)
            self.assertEqual(text_of(found), text_of(scheme))
            self.assertIsNone(first_wrong(text_of(scheme)))
            self.assertIs(found.__class__, Scheme)
            self.assertIs(found.reader.__class__, Reader)

    def test_each_depth_care_and_look(self):
        for marks in (["--"], ["--", "a"], ["--", "a", "-" * 12]):
            for reader in told.every_care(Reader("->a", marks, ">>>")):
                for look in slow.LOOKS:
                    scheme = Scheme(reader, [SAME], look)
                    self.assertEqual(read_scheme(text_of(scheme)), scheme)

    def test_most_and_least(self):
        rules = [("front", "-." * 20, ".=" * 20), ("whole", "", ""), ("front", "", ">" * 40), ("whole", "-", "")] * 100
        scheme = Scheme(Reader("-.=>", ["-" * 12, ".", "="], "."), [Relay("-.=>", rules)] * 5, "none")
        self.assertEqual(read_scheme(text_of(scheme)), scheme)
        self.assertEqual(text_of(scheme).count("front"), 1000)
        scheme = Scheme(Reader("ab", ["a"], "b"), [Relay("ab", [])], "none")
        self.assertEqual(read_scheme(text_of(scheme)), scheme)


class Wrong(Case):
    def wrong(self, value, line):
        self.assertEqual(first_wrong(value), line, value)
        self.fails(InvalidText, {"line": line}, read_scheme, value)
        self.fails(InvalidText, {"line": line}, read_scheme, text=value)

    def test_other_kinds(self):
        for value in STRANGE + [0, 1, [], (), [FULL], (FULL,), ROWS, FULL.encode(), AlwaysEqual(), PAIR]:
            self.fails(InvalidText, {"line": 1}, read_scheme, value)
            self.fails(InvalidText, {"line": 1}, read_scheme, text=value)

    def test_lines_that_lack(self):
        for many in range(len(ROWS)):
            self.wrong(text(ROWS[:many]), many + 1)
        self.wrong("", 1)
        self.wrong("\n", 1)

    def test_no_line_feed(self):
        for many in range(1, len(ROWS) + 1):
            self.wrong(text(ROWS[:many])[:-1], many)
        self.wrong(FULL + "look part", 12)
        self.wrong(FULL + " ", 12)

    def test_lines_behind_the_last_one(self):
        for row in ("", " ", "look part", "mark a", "signs ->a", "a", "_"):
            self.wrong(text(ROWS + [row]), 12)
        self.wrong(FULL + FULL, 12)

    def test_each_line_away_or_twice_or_changed_for_another(self):
        away = {1: 1, 4: None, 5: None, 2: None, 3: None}
        for at in range(len(ROWS)):
            value = text(ROWS[:at] + ROWS[at + 1:])
            if away.get(at + 1, at + 1) is None:
                read_scheme(value)
            else:
                self.wrong(value, at + 1)
        self.wrong(text(ROWS[:1] + ROWS[3:]), 2)
        self.wrong(text(ROWS[:3] + ROWS[5:]), 4)
        for at in range(len(ROWS)):
            value = text(ROWS[:at + 1] + ROWS[at:])
            if at in (1, 2):
                read_scheme(value)
            else:
                self.wrong(value, at + 2)
        # Two equal marks are wrong at the later one, also if another one stands between.
        self.wrong(text(ROWS[:4] + ["mark ->", "mark --"] + ROWS[5:]), 6)

    def test_each_line_in_another_place(self):
        for at in range(len(ROWS)):
            for to in range(len(ROWS)):
                rows = ROWS[:at] + ROWS[at + 1:]
                rows.insert(to, ROWS[at])
                value = text(rows)
                if first_wrong(value) is None:
                    self.assertIn((at, to), [(each, each) for each in range(11)] + [(1, 2), (2, 1), (3, 4), (4, 3)])
                    read_scheme(value)
                else:
                    self.wrong(value, first_wrong(value))

    def test_spaces_and_words(self):
        for at, row in enumerate(ROWS):
            words = row.split(" ")
            rows = [f" {row}", f"{row} ", f"{row} x", "  ".join(words), "", " ", words[0].upper() + row[len(words[0]):],
                    row + "_", words[0] + "s" + row[len(words[0]):], f"x {row}", row.replace(" ", "\t"), row + "\r",
                    "".join(words), "_", f"{words[0]} ", f"{words[0]} _", f"{words[0]} b", f"{words[0]}  "]
            for wrong in rows:
                if wrong != row and not (wrong == "relay" and at in (1, 2)):
                    self.wrong(text(ROWS[:at] + [wrong] + ROWS[at + 1:]), at + 1)

    def test_values(self):
        bad = {
            0: ["signs a", "signs ba", "signs aa", "signs abcde", "signs ->A", "signs +-", "signs -> a", "signs a>",
                "signs abc>"],
            1: ["relay front >", "relay front > _ whole", "relay front > _ whole _", "relay Front > _", "relay front b _",
                "relay front > b", "relay front  _", "relay front >  whole _ a", "relay front _> a", "relay whole __ a",
                f"relay front {'a' * 41} _", f"relay front _ {'a' * 41}", "relay part > _", "relay > _ front", "relay _",
                "relay front > _ front > b", "relay,front > _", "relay front >, _"],
            4: ["mark --", "mark _", "mark " + "-" * 13, "mark -b", "mark - -", "mark"],
            5: ["tail _", "tail >>>>", "tail b", "tail > >", "tail"],
            6: ["sight part", "sight b", "sight --", "sight _", "sight", "sight any"],
            7: ["order whole", "order", "order Inner", "order inner outer", "order refuse"],
            8: ["further inner", "further", "further refuses", "further close "],
            9: ["finish any", "finish", "finish refuse close", "further close"],
            10: ["look", "look anything", "look a", "look Any", "look _", "look whole any"],
        }
        for at, rows in bad.items():
            for row in rows:
                self.wrong(text(ROWS[:at] + [row] + ROWS[at + 1:]), at + 1)
                # What is wrong behind it does not count.
                self.wrong(text(ROWS[:at] + [row] + ["x"] + ROWS[at + 1:]), at + 1)
                self.wrong(text(ROWS[:at] + [row]), at + 1)

    def test_too_many(self):
        head, rest = ROWS[:1], ROWS[3:]
        self.assertEqual(len(read_scheme(text(head + ["relay"] * 5 + rest)).relays()), 5)
        self.wrong(text(head + ["relay"] * 6 + rest), 7)
        self.wrong(text(head + ["relay"] * 7 + rest), 7)
        self.wrong(text(head + ["relay"] * 6), 7)
        rules = "relay" + " front _ _" * 400
        self.assertEqual(len(read_scheme(text(head + [rules] + rest)).relays()[0].rules()), 400)
        self.wrong(text(head + [rules + " front _ _"] + rest), 2)
        self.wrong(text(head + ["relay", rules + " whole a _"] + rest), 3)
        marks = ["mark -", "mark a", "mark >"]
        self.assertEqual(read_scheme(text(ROWS[:3] + marks + ROWS[5:])).reader.depth, 3)
        self.wrong(text(ROWS[:3] + marks + ["mark aa"] + ROWS[5:]), 7)
        self.wrong(text(ROWS[:3] + marks + ["mark -"] + ROWS[5:]), 7)

    def test_the_signs_that_are_told_count(self):
        self.wrong(text(["signs ab"] + ROWS[1:]), 2)
        self.wrong(text(["signs ab", "relay front a _"] + ROWS[3:]), 3)
        self.wrong(text(["signs ->"] + ROWS[1:]), 2)
        self.wrong(text(["signs ->"] + ["relay front > _"] + ROWS[2:]), 6)

    def test_any_changes(self):
        right = wrong = 0
        for seed in range(3000):
            source = random.Random(seed)
            rows = text_of(some_scheme(source)).split("\n")
            for _ in range(source.randrange(1, 3)):
                at, kind = source.randrange(len(rows)), source.randrange(6)
                if kind == 0 and len(rows) > 1:
                    rows.pop(at)
                elif kind == 1:
                    rows.insert(source.randrange(len(rows)), rows[at])
                elif kind == 2:
                    rows[at], rows[-1 - at] = rows[-1 - at], rows[at]
                elif kind == 3:
                    place = source.randrange(len(rows[at]) + 1)
                    rows[at] = rows[at][:place] + source.choice([" ", "_", "a", "b", "-", ">"]) + rows[at][place:]
                elif kind == 4:
                    place = source.randrange(len(rows[at]) + 1)
                    rows[at] = rows[at][:place] + rows[at][place + 1:]
                else:
                    words = rows[at].split(" ")
                    words[source.randrange(len(words))] = source.choice(["whole", "front", "_", "a", "relay", "mark", "-"])
                    rows[at] = " ".join(words)
            value = "\n".join(rows)
            number = first_wrong(value)
            if number is None:
                right = right + 1
                self.assertEqual(text_of(read_scheme(value)), value)
            else:
                wrong = wrong + 1
                self.fails(InvalidText, {"line": number}, read_scheme, value)
        self.assertGreater(right, 200)
        self.assertGreater(wrong, 1500)
