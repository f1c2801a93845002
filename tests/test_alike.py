"""Whether readers understand all messages alike, held against a slow search through short messages."""

import random
from itertools import combinations, product

from frontlines.alike import are_alike, can_be_held, is_unlike_at, line_views, unlike_message
from frontlines.readers import Reader
from tests import brute, told
from tests.cases import Case

STRICT = Reader("->a", ["--"], ">")
PAIR = Reader("->a", ["--", "->"], ">")


def with_other_cares(source, reader):
    """The reader with some words of its cares changed."""
    found = reader
    for name, words in [("sight", ["whole", "start", *reader.signs]), *told.CARES.items()]:
        if source.random() < 0.4:
            found = found.with_care(name, source.choice(words))
    return found


def reach(reader):
    """So many signs show all that is to be seen."""
    return max(len(line) for line in told.role_lines(reader)) + 1


class Held(Case):
    def test_by_hand(self):
        for other in told.every_care(PAIR):
            self.assertIs(can_be_held(PAIR, other), True)
            self.assertIs(can_be_held(other=PAIR, one=other), True)
        for other in (Reader("->a", ["->", "--"], ">"), Reader("->a", ["--"], ">"), Reader("->a", ["--", "->"], "-"),
                      Reader("->b", ["--", "->"], ">"), Reader("->", ["--", "->"], ">"),
                      Reader("->a", ["--", "->", "a"], ">"), Reader("->a", ["--", "->>"], ">")):
            self.assertIs(can_be_held(PAIR, other), False)
            self.assertIs(can_be_held(other, PAIR), False)
        self.assertIs(can_be_held(PAIR, PAIR), True)


class Views(Case):
    def test_against_lines(self):
        for seed in range(150):
            source = random.Random(seed)
            one = told.some_reader(source, signs="ab" if seed % 3 else "->a")
            other = with_other_cares(source, one)
            size = reach(one) + 1
            found = line_views(one, other)
            self.assertEqual(found, told.views(one, other, size), seed)
            self.assertEqual([view[2] for view in found], sorted([view[2] for view in found], key=brute.order))

    def test_of_long_marks(self):
        reader = Reader("ab", ["a" * 12, "a" * 11, "b"], "aaa", sight="start")
        found = line_views(reader, reader.with_care("sight", "a"))
        self.assertEqual(found[0], ([], [], ""))
        self.assertEqual([len(view[2]) for view in found], [0, 1, 2, 4, 5, 11, 12, 12, 13, 14, 15, 15, 16])
        for one, other, line in found:
            self.assertEqual((one, other), told.view(reader, reader.with_care("sight", "a"), line))
        lines = ["a" * size + end for size in range(17) for end in ("", "b")] + ["b", "baaa", "baaaa", "ba", "bb"]
        for line in lines:
            self.assertIn(told.view(reader, reader.with_care("sight", "a"), line), [view[:2] for view in found])

    def test_kinds_and_names(self):
        found = line_views(other=STRICT.with_care("sight", "start"), one=STRICT)
        self.assertEqual(found[2], ([], [("next", 1)], "---"))
        self.assertIs(found.__class__, list)
        for view in found:
            self.assertEqual([part.__class__ for part in view], [list, list, str])
            self.assertIs(view.__class__, tuple)

    def test_cares_beside_the_sight_do_not_matter(self):
        for other in told.every_care(PAIR):
            plain = PAIR.with_care("sight", other.sight)
            self.assertEqual(line_views(PAIR, other), line_views(PAIR, plain))
            self.assertEqual([(two, one, line) for one, two, line in line_views(PAIR, other)], line_views(other, PAIR))


class Unlike(Case):
    def look(self, one, other, most):
        """The least unlike message against a search through messages of at most so many lines, one of each view."""
        lines = [view[2] for view in told.views(one, other, reach(one))]
        found = unlike_message(one, other)
        self.assertIs(are_alike(one, other), found is None)
        wanted = told.unlike_message(one, other, lines, most)
        if found is not None and wanted is None:
            self.assertGreater(len(found), most)
            self.assertNotEqual(told.read(one, found)[1], told.read(other, found)[1])
        else:
            self.assertEqual(found, wanted, (one, other))
        if found is not None:
            self.assertIs(found.__class__, list)
            self.assertIs(is_unlike_at(one, other, found), True)
            self.assertIs(is_unlike_at(other, one, found), True)
        return found

    def test_against_a_slow_search(self):
        alike, sizes = 0, set()
        for seed in range(250):
            source = random.Random(seed)
            one = told.some_reader(source, depth=2 if seed % 4 else 3)
            found = self.look(one, with_other_cares(source, one), 4 if one.depth < 3 else 3)
            alike = alike + (found is None)
            sizes.add(None if found is None else len(found))
        self.assertGreater(alike, 20)
        self.assertLess(alike, 220)
        self.assertLessEqual({None, 0, 1, 2, 3}, sizes)

    def test_against_all_short_lines(self):
        for seed in range(12):
            source = random.Random(seed)
            one = Reader("ab", source.sample(["a", "b", "ab"], source.randrange(1, 3)), "a")
            other = with_other_cares(source, one)
            found = unlike_message(one, other)
            lines = brute.lines_up_to("ab", 3)
            wanted = told.unlike_message(one, other, lines, 2 if found is None else min(len(found), 3))
            if found is None or (len(found) <= 3 and all(len(line) <= 3 for line in found)):
                self.assertEqual(found, wanted, seed)

    def test_all_cares_of_one_reader(self):
        pair = Reader("ab", ["a", "aa"], "b")
        for one, other in combinations(told.every_care(pair), 2):
            self.look(one, other, 2)

    def test_each_care_by_hand(self):
        self.assertEqual(unlike_message(STRICT, STRICT.with_care("finish", "close")), [])
        self.assertEqual(unlike_message(STRICT, STRICT.with_care("sight", "start")), ["-->-"])
        self.assertEqual(unlike_message(STRICT, STRICT.with_care("sight", "a")), ["-->a"])
        # A level alone asks nothing further out and nothing first.
        for name, word in (("order", "outer"), ("further", "close")):
            self.assertIsNone(unlike_message(STRICT, STRICT.with_care(name, word)))
            self.assertIs(are_alike(other=STRICT, one=STRICT.with_care(name, word)), True)
        self.assertEqual(unlike_message(PAIR, PAIR.with_care("further", "close")), ["--", "-->"])
        self.assertIsNone(unlike_message(PAIR, PAIR.with_care("order", "outer")))
        # "->" is the end of the first level as well: which one is asked first matters.
        both = Reader("->a", ["-", "->"], ">", further="close")
        self.assertEqual(unlike_message(both, both.with_care("order", "outer")), ["-", "->"])
        for reader in (STRICT, PAIR, both):
            self.assertIsNone(unlike_message(reader, reader))
            self.assertIs(are_alike(reader, reader), True)

    def test_unlike_far_within(self):
        # Just the mark of the third level, and the end of the second one, can be taken for each other.
        deep = Reader("->a", ["--", ">", ">a"], "a", further="close")
        found = self.look(deep, deep.with_care("order", "outer"), 4)
        self.assertEqual(found, ["--", ">", ">a", "--a"])
        ready = deep.with_care("finish", "close")
        self.assertEqual(self.look(ready, ready.with_care("order", "outer"), 3), ["--", ">", ">a"])
        strict = deep.with_care("further", "refuse")
        self.assertEqual(unlike_message(strict, strict.with_care("order", "outer")), [
            "--", ">", ">a", ">aa", ">a", "--a"])

    def test_is_unlike_at_against_a_plain_reader(self):
        unlike = 0
        for seed in range(300):
            source = random.Random(seed)
            one = told.some_reader(source)
            other = with_other_cares(source, one)
            lines = brute.lines_up_to(one.signs, 3)
            message = [line for line, _ in told.written(one, told.some_tree(source, one, lines))]
            for _ in range(5):
                wanted = told.read(one, message)[1] != told.read(other, message)[1]
                self.assertIs(is_unlike_at(one, other, message), wanted)
                unlike = unlike + wanted
                message = told.changed(source, message, lines + told.role_lines(one))
        self.assertGreater(unlike, 40)
        self.assertLess(unlike, 1460)

    def test_messages_by_hand(self):
        lenient = STRICT.with_care("finish", "close")
        self.assertIs(is_unlike_at(STRICT, lenient, []), True)
        self.assertIs(is_unlike_at(STRICT, lenient, ["-->"]), False)
        self.assertIs(is_unlike_at(STRICT, lenient, ("--", "a")), True)
        self.assertIs(is_unlike_at(STRICT, lenient, ["a"]), False)
        start = STRICT.with_care("sight", "start")
        self.assertIs(is_unlike_at(message=["--", "--a", "-->"], other=start, one=STRICT), True)
        self.assertIs(is_unlike_at(STRICT, start, ["--", "a", "-->"]), False)
        # Both refuse it, by different lines.
        self.assertIs(is_unlike_at(STRICT, start, ["--a", "a"]), False)

    def test_long_marks(self):
        reader = Reader("-.=>", ["-" * 12, "." * 12, "-."], ">>>", further="close")
        for other in told.every_care(reader)[::3]:
            found = unlike_message(reader, other)
            self.assertIs(are_alike(reader, other), found is None)
            if found is not None:
                self.assertNotEqual(told.read(reader, found)[1], told.read(other, found)[1])
                # With a line less it is told alike.
                self.assertFalse(any(is_unlike_at(reader, other, found[:at] + found[at + 1:])
                                     for at in range(len(found))))


class Alike(Case):
    def test_alike_readers_tell_the_same(self):
        done = 0
        for seed in range(200):
            source = random.Random(seed)
            one = told.some_reader(source, depth=2)
            other = with_other_cares(source, one)
            if one == other or not are_alike(one, other):
                continue
            lines = told.role_lines(one) + ["", *one.signs]
            for message in product(lines, repeat=3):
                self.assertEqual(told.read(one, message)[1], told.read(other, message)[1])
            done = done + 1
        self.assertGreater(done, 5)
