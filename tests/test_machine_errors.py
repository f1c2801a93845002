"""The errors of Machine: which values are not valid, and which error comes first."""

from frontlines.errors import (
    InvalidCount,
    InvalidEnds,
    InvalidLine,
    InvalidLines,
    InvalidRows,
    InvalidSigns,
    OtherSigns,
    TooMany,
)
from frontlines.machines import Machine
from tests.cases import STRANGE, AlwaysEqual, Case

BAD_SIGNS = [
    "", "a", "abcde", "ba", "aa", "aab", "abb", "aba", "->A", "A-", "-_", " a", "a ", "-\n", "\n-", "+-", "->a~", "(a",
    "a>", ">-", 0, 1, 12, -1, ["a", "b"], ("a", "b"), ["ab"],
] + STRANGE
GOOD_SIGNS = ["ab", "abc", "abcd", "->a", "-.", "-.0", "-.=>", "=>", "0z", "z|", "-|", "019z", "09az", ".1"]
BAD_LINES = ["b", "-b", "b-", "->ab", " ", "-\n", "A", "-_>", 0, 1, ["-"], ("-",), [], ()] + STRANGE
BAD_COUNTS = [-1, -400, "", "1", [1], (1,), []] + STRANGE


class Signs(Case):
    def test_bad_signs(self):
        for value in BAD_SIGNS + [AlwaysEqual()]:
            told = {"value": value}
            self.fails(InvalidSigns, told, Machine, value, [(0, 0)], [])
            self.fails(InvalidSigns, told, Machine, signs=value, rows=[(0, 0)], ends=[])
            self.fails(InvalidSigns, told, Machine.every, value)
            self.fails(InvalidSigns, told, Machine.nothing, signs=value)
            self.fails(InvalidSigns, told, Machine.of_lines, value, [])
            self.fails(InvalidSigns, told, Machine.beginning, value, "")
            self.fails(InvalidSigns, told, Machine.having, value, "")
            self.fails(InvalidSigns, told, Machine.tailed, value, "", "a")
            self.fails(InvalidSigns, told, Machine.longer, value, 0)

    def test_good_signs(self):
        for value in GOOD_SIGNS:
            made = Machine(value, [tuple(0 for _ in value)], [0])
            self.assertEqual(made.signs, value)
            self.assertEqual(made, Machine.every(value))

    def test_signs_come_first(self):
        self.fails(InvalidSigns, {"value": "ba"}, Machine, "ba", None, None)
        self.fails(InvalidSigns, {"value": 3}, Machine.of_lines, 3, None)
        self.fails(InvalidSigns, {"value": "a"}, Machine.beginning, "a", 5)
        self.fails(InvalidSigns, {"value": "a"}, Machine.having, "a", 5)
        self.fails(InvalidSigns, {"value": "a"}, Machine.tailed, "a", 5, 6)
        self.fails(InvalidSigns, {"value": "a"}, Machine.longer, "a", -1)
        self.fails(InvalidSigns, {"value": "a"}, Machine.longer, "a", 1000)


class Rows(Case):
    def test_no_list(self):
        for value in STRANGE + ["", "ab", 0, 3, [], (), AlwaysEqual()]:
            self.fails(InvalidRows, {"position": None}, Machine, "ab", value, [])
            self.fails(InvalidRows, {"position": None}, Machine, signs="ab", rows=value, ends=[])

    def test_wrong_rows(self):
        wrong = [
            (), (0,), (0, 0, 0), [0], (0, 2), (2, 0), (-1, 0), (0, -1), (True, 0), (0, False), (0, None), ("0", 0),
            ([0], 0), (0, (0,)), "00", "ab", 0, (AlwaysEqual(), 0), {0: 0, 1: 1}, {0, 1}, b"\x00\x00", range(2),
        ] + STRANGE
        for row in wrong:
            self.fails(InvalidRows, {"position": 0}, Machine, "ab", [row, (0, 0)], [])
            self.fails(InvalidRows, {"position": 1}, Machine, "ab", [(0, 1), row], [])
            self.fails(InvalidRows, {"position": 1}, Machine, "ab", ([0, 1], row), ())

    def test_first_wrong_row_decides(self):
        self.fails(InvalidRows, {"position": 1}, Machine, "ab", [(0, 1), (0, 3), None], [])
        self.fails(InvalidRows, {"position": 2}, Machine, "->a", [(0, 1, 2), (2, 1, 0), (0, 1)], [])

    def test_rows_come_before_ends(self):
        self.fails(InvalidRows, {"position": None}, Machine, "ab", None, None)
        self.fails(InvalidRows, {"position": 0}, Machine, "ab", [(0, 1)], [5])

    def test_lists_and_tuples(self):
        made = Machine("ab", [(1, 0), (0, 1)], [1])
        self.assertEqual(Machine("ab", ((1, 0), [0, 1]), (1,)), made)
        self.assertEqual(Machine("ab", [[1, 0], [0, 1]], [1]), made)
        self.assertEqual(Machine(ends=(1,), rows=([1, 0], (0, 1)), signs="ab"), made)

    def test_many_rows(self):
        rows = [((at + 1) % 300, at) for at in range(300)]
        self.assertEqual(Machine("ab", rows, [0]).states, 300)
        self.assertEqual(Machine("ab", [(0, 0)] * 300, [0]).states, 1)
        told = {"what": "rows", "limit": 300}
        self.fails(TooMany, told, Machine, "ab", [(0, 0)] * 301, [0])
        self.fails(TooMany, told, Machine, "ab", [(0, 300)] * 301, [300])
        self.fails(TooMany, told, Machine, signs="ab", rows=tuple([[0, 0]] * 2000), ends=())
        self.fails(InvalidRows, {"position": 300}, Machine, "ab", [(0, 0)] * 300 + [(0, 301)], [0])
        self.fails(InvalidEnds, {"position": 0}, Machine, "ab", [(0, 0)] * 301, [301])


class Ends(Case):
    def test_no_list(self):
        for value in STRANGE + ["", "0", 0, AlwaysEqual()]:
            self.fails(InvalidEnds, {"position": None}, Machine, "ab", [(0, 0)], value)

    def test_wrong_ends(self):
        for value in STRANGE + [2, -1, 300, "0", [0], (0,), AlwaysEqual()]:
            self.fails(InvalidEnds, {"position": 0}, Machine, "ab", [(0, 1), (1, 1)], [value])
            self.fails(InvalidEnds, {"position": 1}, Machine, "ab", [(0, 1), (1, 1)], (0, value, 0))
            self.fails(InvalidEnds, {"position": 2}, Machine, "ab", [(0, 1), (1, 1)], [1, 0, value])

    def test_twice(self):
        self.fails(InvalidEnds, {"position": 1}, Machine, "ab", [(0, 1), (1, 1)], [0, 0])
        self.fails(InvalidEnds, {"position": 2}, Machine, "ab", [(0, 1), (1, 1)], [1, 0, 1, 9])
        self.fails(InvalidEnds, {"position": 2}, Machine, "ab", [(0, 1), (1, 1)], (1, 0, 0))

    def test_any_sequence(self):
        self.assertEqual(Machine("ab", [(0, 1), (1, 1)], [1, 0]), Machine.every("ab"))
        self.assertEqual(Machine("ab", [(0, 1), (1, 1)], ()), Machine.nothing("ab"))


class Lines(Case):
    def test_line(self):
        for value in BAD_LINES + [AlwaysEqual()]:
            told = {"value": value}
            self.fails(InvalidLine, told, Machine.beginning, "->a", value)
            self.fails(InvalidLine, told, Machine.beginning, signs="->a", line=value)
            self.fails(InvalidLine, told, Machine.having, "->a", value)
            self.fails(InvalidLine, told, Machine.having, signs="->a", line=value)
            self.fails(InvalidLine, told, Machine.tailed, "->a", value, "-")
            self.fails(InvalidLine, told, Machine.tailed, "->a", value, None)
            self.fails(InvalidLine, told, Machine.tailed, sign="-", line=value, signs="->a")

    def test_sign(self):
        for value in BAD_LINES + ["", "--", "->", "->a"]:
            self.fails(InvalidLine, {"value": value}, Machine.tailed, "->a", "-", value)
            self.fails(InvalidLine, {"value": value}, Machine.tailed, signs="->a", line="", sign=value)
            self.fails(InvalidLine, {"value": value}, Machine.tailed, "->a", "-" * 400, value)

    def test_lines(self):
        for value in STRANGE + ["", "-", 0]:
            self.fails(InvalidLines, {"position": None}, Machine.of_lines, "->a", value)
            self.fails(InvalidLines, {"position": None}, Machine.of_lines, signs="->a", lines=value)
        for value in BAD_LINES + [AlwaysEqual()]:
            self.fails(InvalidLines, {"position": 0}, Machine.of_lines, "->a", [value])
            self.fails(InvalidLines, {"position": 2}, Machine.of_lines, "->a", ("", "->", value, "-", 0))
            self.fails(InvalidLines, {"position": 1}, Machine.of_lines, "->a", ["-" * 299, value])

    def test_counts(self):
        machine = Machine.every("->a")
        for value in BAD_COUNTS + [AlwaysEqual()]:
            told = {"value": value}
            self.fails(InvalidCount, told, Machine.longer, "->a", value)
            self.fails(InvalidCount, told, Machine.longer, signs="->a", size=value)
            self.fails(InvalidCount, told, machine.how_many, value)
            self.fails(InvalidCount, told, machine.how_many, size=value)
            self.fails(InvalidCount, told, machine.first_lines, value)
            self.fails(InvalidCount, told, machine.first_lines, many=value)


class Together(Case):
    def test_other_signs(self):
        one, other = Machine.every("->a"), Machine.every("ab")
        told = {"one": "->a", "other": "ab"}
        self.fails(OtherSigns, told, lambda: one | other)
        self.fails(OtherSigns, told, lambda: one & other)
        self.fails(OtherSigns, told, lambda: one - other)
        self.fails(OtherSigns, told, one.is_within, other)
        self.fails(OtherSigns, told, one.unlike_line, other)
        back = {"one": "ab", "other": "->a"}
        self.fails(OtherSigns, back, lambda: other | one)
        self.fails(OtherSigns, back, lambda: other & one)
        self.fails(OtherSigns, back, lambda: other - one)
        self.fails(OtherSigns, back, other.is_within, other=one)
        self.fails(OtherSigns, back, other.unlike_line, other=one)

    def test_as_many_signs(self):
        self.fails(OtherSigns, {"one": "ab", "other": "ac"}, lambda: Machine.every("ab") & Machine.every("ac"))
