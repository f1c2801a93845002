"""The errors of trees, breaks and alike: which values are not valid, and which error comes first."""

from frontlines.alike import are_alike, is_unlike_at, line_views, unlike_message
from frontlines.breaks import are_numbers_right, coming, first_coming, first_longer, is_coming_way, pieces
from frontlines.errors import (
    InvalidChain,
    InvalidLine,
    InvalidMessage,
    InvalidRelays,
    InvalidSigns,
    InvalidTree,
    InvalidWidth,
    OtherReaders,
    OtherSigns,
)
from frontlines.machines import Machine
from frontlines.readers import Reader
from frontlines.relays import Relay
from frontlines.schemes import Scheme
from frontlines.trees import course, goes_wrong, own_telling, telling, tree_read, written
from tests.cases import STRANGE, AlwaysEqual, Case
from tests.test_chain_errors import BAD_CHAINS, BAD_RELAYS, FAR, MARK
from tests.test_machine_errors import BAD_LINES, BAD_SIGNS
from tests.test_schemes import PAIR, READER, STRIP
from tests.test_trees import DEEP, IsTree
from tests.test_writer_errors import far_sign

ODD = STRANGE + ["", "a", 0, 1, AlwaysEqual()]
BAD_LISTS = [(value, None) for value in ODD] + [
    ([value], 0) for value in BAD_LINES + [AlwaysEqual(), ["a"]]
] + [
    (("a", "", value, None), 2) for value in BAD_LINES + [AlwaysEqual()]
] + [(["a"] * 7 + ["b", "b"], 7)]
BAD_WIDTHS = STRANGE + [0, -1, 5, 10 ** 29, "", "1", "a", [1], (1,), [], AlwaysEqual()]
SCHEME = Scheme(READER, [STRIP, STRIP], "whole")


class Trees(Case):
    def bad(self, depth):
        """Values that are no trees of the depth, wrong at any depth and place."""
        found = ODD + IsTree.WRONG[depth]
        for value in BAD_LINES + [AlwaysEqual()]:
            for body in ([value], ["a", value]):
                for _ in range(depth):
                    body = [[], body]
                found.append(body)
        return found

    def test_tree(self):
        for reader in (READER, PAIR, DEEP):
            scheme = Scheme(reader, [STRIP], "any")
            for value in self.bad(reader.depth):
                told = {"value": value}
                self.fails(InvalidTree, told, written, reader, value)
                self.fails(InvalidTree, told, own_telling, tree=value, reader=reader)
                self.fails(InvalidTree, told, goes_wrong, scheme, value, [0])
                self.fails(InvalidTree, told, goes_wrong, chain=None, tree=value, scheme=scheme)

    def test_chain(self):
        for look in ("whole", "any"):
            scheme = Scheme(READER, [STRIP], look)
            for value, position in BAD_CHAINS:
                self.fails(InvalidChain, {"position": position}, goes_wrong, scheme, [["--"], [">--"]], value)
                self.fails(InvalidChain, {"position": position}, goes_wrong, chain=value, tree=[], scheme=scheme)
        self.fails(InvalidChain, {"position": 1}, goes_wrong, SCHEME, [], [1, 2])
        self.assertIs(goes_wrong(SCHEME, [], [1, 0]), False)
        self.fails(InvalidTree, {"value": ["a"]}, goes_wrong, SCHEME, ["a"], [2])

    def test_message(self):
        for value, position in BAD_LISTS:
            for call in (telling, course, tree_read):
                self.fails(InvalidMessage, {"position": position}, call, READER, value)
                self.fails(InvalidMessage, {"position": position}, call, message=value, reader=DEEP)
            self.fails(InvalidMessage, {"position": position}, is_unlike_at, READER, READER, value)
            self.fails(InvalidMessage, {"position": position}, is_unlike_at, message=value, other=READER, one=READER)
        self.fails(InvalidMessage, {"position": 1}, telling, Reader("ab", ["a"], "b"), ["b", "-", "b", "-"])
        # A wrong line behind the one that has the message refused is wrong as well.
        self.fails(InvalidMessage, {"position": 2}, telling, READER, ["a", "a", "b"])


class Breaks(Case):
    def test_signs_and_line(self):
        for value in BAD_SIGNS + [AlwaysEqual()]:
            self.fails(InvalidSigns, {"value": value}, pieces, value, "a", 1)
            self.fails(InvalidSigns, {"value": value}, pieces, width=0, line=None, signs=value)
        for value in BAD_LINES + [AlwaysEqual()]:
            self.fails(InvalidLine, {"value": value}, pieces, "->a", value, 1)
            self.fails(InvalidLine, {"value": value}, pieces, width=0, line=value, signs="->a")
            self.fails(InvalidLine, {"value": value}, is_coming_way, [STRIP], 1, value, MARK, [])
            self.fails(InvalidLine, {"value": value}, is_coming_way, value=None, machine=FAR, line=value, width=4,
                       relays=[STRIP])

    def test_width(self):
        scheme, huge = SCHEME, Scheme(Reader(">ab", [">"], "a"), far_sign(12), "any")
        for value in BAD_WIDTHS:
            told = {"value": value}
            self.fails(InvalidWidth, told, pieces, "->a", "a", value)
            self.fails(InvalidWidth, told, pieces, width=value, line="a", signs="->a")
            self.fails(InvalidWidth, told, coming, [STRIP], value, MARK)
            self.fails(InvalidWidth, told, coming, machine=FAR, width=value, relays=[STRIP])
            for call in (first_coming, are_numbers_right, first_longer):
                self.fails(InvalidWidth, told, call, scheme, value)
                self.fails(InvalidWidth, told, call, width=value, scheme=huge)
            self.fails(InvalidWidth, told, is_coming_way, [STRIP], value, "a", MARK, [])
            self.fails(InvalidWidth, told, is_coming_way, value=None, machine=FAR, line="b", width=value, relays=[STRIP])

    def test_relays(self):
        for value, position in BAD_RELAYS:
            told = {"position": position}
            self.fails(InvalidRelays, told, coming, value, 1, MARK)
            self.fails(InvalidRelays, told, coming, machine=FAR, width=0, relays=value)
            self.fails(InvalidRelays, told, is_coming_way, value, 1, "a", MARK, [])
            self.fails(InvalidRelays, told, is_coming_way, value=0, machine=FAR, line=0, width=0, relays=value)

    def test_other_signs(self):
        told = {"one": "->a", "other": "ab"}
        self.fails(OtherSigns, told, coming, [STRIP], 1, FAR)
        self.fails(OtherSigns, told, coming, machine=FAR, width=4, relays=(STRIP, STRIP))
        self.fails(OtherSigns, told, is_coming_way, [STRIP], 1, ">", FAR, [])
        self.fails(OtherSigns, told, is_coming_way, value=None, machine=FAR, line="a", width=1, relays=[STRIP])
        # The line is looked at by the signs of the relays.
        self.fails(InvalidLine, {"value": "b"}, is_coming_way, [STRIP], 1, "b", FAR, [])
        self.fails(InvalidLine, {"value": ">"}, is_coming_way, [Relay("ab", [])], 1, ">", MARK, [])


class Alike(Case):
    OTHERS = [
        PAIR, Reader("->a", ["--", "->"], ">>"), Reader("->a", ["->", "--"], ">"), Reader("->a", ["--"], ">"),
        Reader("->b", ["--", "->"], ">"), Reader("->", ["--", "->"], ">"), Reader("->a", ["--", "->", "a"], ">"),
    ]

    def test_other_readers(self):
        for one in self.OTHERS:
            for other in self.OTHERS:
                if one is other:
                    continue
                for call in (line_views, are_alike, unlike_message):
                    told = {"one": one, "other": other}
                    self.fails(OtherReaders, told, call, one, other)
                    self.fails(OtherReaders, told, call, other=other, one=one)
                self.fails(OtherReaders, told, is_unlike_at, one, other, ["--"])
                self.fails(OtherReaders, told, is_unlike_at, message=[], other=other, one=one)

    def test_message_comes_first(self):
        ab = Reader("ab", ["a"], "b")
        self.fails(InvalidMessage, {"position": 0}, is_unlike_at, READER, ab, ["b"])
        self.fails(InvalidMessage, {"position": 0}, is_unlike_at, ab, READER, ["-"])
        self.fails(OtherReaders, {"one": ab, "other": READER}, is_unlike_at, ab, READER, ["b"])
