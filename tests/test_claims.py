"""Claims held against slow searches, and what is a paper for them and what is not."""

import random

from frontlines.chains import before, is_barrier, is_closed
from frontlines.claims import is_paper, is_true, paper_for
from frontlines.errors import InvalidClaim, TooMany, Untrue
from frontlines.faults import seen_somewhere
from frontlines.machines import Machine
from frontlines.readers import Reader
from frontlines.relays import Relay
from frontlines.schemes import Scheme
from frontlines.texts import text_of
from frontlines.trees import is_wrong_way
from tests import brute, slow, told
from tests.cases import STRANGE, AlwaysEqual, Case
from tests.test_alike import with_other_cares
from tests.test_chain_errors import BAD_CHAINS
from tests.test_machine_errors import BAD_LINES
from tests.test_readers import BAD_ROLES
from tests.test_schemes import PAIR, QUOTE, READER, SAME, STRIP, some
from tests.test_trees import by_steps, some_scheme

LOOSE, TIGHT = text_of(Scheme(READER, [STRIP], "whole")), text_of(Scheme(READER, [STRIP], "any"))
TWO = text_of(Scheme(PAIR, [STRIP, SAME], "any"))
ODD = STRANGE + ["", "a", 0, 1, -1, [], (), [0], (0,), [[]], ([], []), ([[]], [0]), ["--"], AlwaysEqual()]


def turned(scheme, line, role, kind="turned"):
    return {"claim": kind, "scheme": text_of(scheme), "line": line, "role": role}


def never(scheme, line, role):
    return turned(scheme, line, role, "never")


def sound(scheme, kind="sound"):
    return {"claim": kind, "scheme": text_of(scheme)}


def alike(one, other, kind="alike"):
    text = text_of(Scheme(one, [Relay(one.signs, [])], "any"))
    return {"claim": kind, "scheme": text, "other": text_of(Scheme(other, [Relay(other.signs, [])] * 2, "none"))}


def split(source, signs, paper):
    """The machine of a paper with states of which none is least: some twice, in another sequence, and one not met."""
    rows, ends = paper
    many = len(rows)
    twice = [tuple(target + many * source.randrange(2) for target in row) for row in rows * 2] + [(0,) * len(signs)]
    return brute.renumbered(source, twice, list(ends) + [end + many for end in ends] + [many * 2] * source.randrange(2))


class Truth(Case):
    def test_turned_and_never(self):
        true = 0
        for seed in range(60):
            scheme, rules, parts, _ = some(seed)
            for line in brute.lines_up_to(parts.signs, 3)[seed % 3::3]:
                for role in scheme.reader.roles():
                    mark = slow.role_line(parts.marks, parts.tail, role)
                    number = slow.steps(rules, line, lambda each: slow.sees(parts.sight, mark, each))
                    self.assertIs(is_true(turned(scheme, line, role)), number is not None, (seed, line, role))
                    self.assertIs(is_true(never(scheme, line, role)), number is None)
                    true = true + (number is not None)
        self.assertGreater(true, 50)

    def test_sound_and_unsound(self):
        for seed in range(120):
            scheme, parts, size = some_scheme(seed)
            faults = parts.faults(parts.relays, size)
            if not faults and scheme.faults():
                self.assertGreater(len(scheme.faults()[0][1]), size)
                faults = scheme.faults()
            self.assertIs(is_true(sound(scheme)), not faults)
            self.assertIs(is_true(sound(scheme, "unsound")), bool(faults))

    def test_alike_and_unlike(self):
        found = set()
        for seed in range(80):
            source = random.Random(seed)
            one = told.some_reader(source, depth=2)
            other = with_other_cares(source, one)
            lines = [view[2] for view in told.views(one, other, 6)]
            unlike = told.unlike_message(one, other, lines, 4) is not None
            self.assertIs(is_true(alike(one, other, "unlike")), unlike)
            self.assertIs(is_true(alike(one, other)), not unlike)
            found.add(unlike)
        self.assertEqual(found, {True, False})

    def test_by_hand(self):
        claim = {"claim": "turned", "scheme": LOOSE, "line": ">>--", "role": ("next", 1)}
        self.assertIs(is_true(claim), True)
        self.assertEqual(paper_for(claim), [0, 0])
        self.assertIs(is_paper(claim, [0, 0]), True)
        self.assertIs(is_paper(claim=claim, value=(0, 0, 0)), True)
        self.assertIs(is_paper(claim, [0]), False)
        claim = {"role": ("next", 1), "line": "a--", "scheme": LOOSE, "claim": "never"}
        self.assertIs(is_true(claim=claim), True)
        self.assertEqual(paper_for(claim=claim), ([(1, 0, 2), (3, 2, 2), (2, 2, 2), (2, 2, 2)], [3]))
        self.assertIs(is_paper(claim, ([(1, 0, 2), (3, 2, 2), (2, 2, 2), (2, 2, 2)], [3])), True)
        self.assertIs(is_paper(claim, ([(1, 0, 2), (3, 2, 2), (2, 2, 2), (2, 2, 2)], (3, 2))), False)
        self.assertIs(is_paper(claim, ([(1, 0, 2), (3, 2, 2), (2, 2, 2), (2, 2, 2)], (3, 1))), True)
        self.assertIs(is_paper(claim, ([(0, 0, 1), (1, 1, 1)], [0])), True)
        self.assertEqual(paper_for({"claim": "unsound", "scheme": LOOSE}), ([[">--"]], [0]))
        self.assertIsNone(paper_for({"claim": "alike", "scheme": LOOSE, "other": TIGHT}))
        self.assertEqual(paper_for(alike(READER, READER.with_care("finish", "close"), "unlike")), [])


class Papers(Case):
    def test_papers_that_are_told(self):
        kinds = {}
        for seed in range(80):
            scheme, _, _ = some_scheme(seed)
            source = random.Random(seed)
            line = source.choice(brute.lines_up_to(scheme.signs, 3))
            role = source.choice(scheme.reader.roles())
            other = with_other_cares(source, scheme.reader)
            for claims in ((turned(scheme, line, role), never(scheme, line, role)),
                           (sound(scheme), sound(scheme, "unsound")),
                           (alike(scheme.reader, other), alike(scheme.reader, other, "unlike"))):
                self.assertNotEqual(is_true(claims[0]), is_true(claims[1]))
                for claim, opposite in (claims, claims[::-1]):
                    if is_true(claim):
                        paper = paper_for(claim)
                        self.assertIs(is_paper(claim, paper), True)
                        self.assertIs(is_paper(opposite, paper), False)
                        self.assertEqual(paper_for(claim), paper)
                        kinds[claim["claim"]] = kinds.get(claim["claim"], 0) + 1
                    else:
                        self.fails(Untrue, {}, paper_for, claim)
                        self.fails(Untrue, {}, paper_for, claim=claim)
        self.assertEqual(len(kinds), 6)
        self.assertGreater(min(kinds.values()), 4)

    def test_kinds_of_papers(self):
        scheme = Scheme(PAIR, [STRIP], "any")
        paper = paper_for(sound(scheme))
        self.assertEqual((paper.__class__, len(paper)), (list, 5))
        for each in paper + [paper_for(never(scheme, "a", ("end", 2)))]:
            self.assertEqual((each.__class__, len(each)), (tuple, 2))
            self.assertEqual((each[0].__class__, each[0][0].__class__, each[1].__class__), (list, tuple, list))
        self.assertIs(paper_for(turned(scheme, ">-->", ("end", 1))).__class__, list)
        self.assertIs(paper_for({"claim": "unsound", "scheme": LOOSE}).__class__, tuple)

    def test_values_of_any_kind_are_no_papers(self):
        claims = [turned(Scheme(READER, [STRIP], "any"), ">--", ("next", 1)), {"claim": "sound", "scheme": TIGHT},
                  never(Scheme(READER, [STRIP], "any"), "a", ("next", 1)), {"claim": "unsound", "scheme": LOOSE},
                  alike(READER, READER.with_care("sight", "start"), "unlike")]
        for claim in claims:
            self.assertIs(is_true(claim), True)
            for value in ODD:
                if (claim["claim"], value) not in [("turned", [0]), ("turned", (0,))]:
                    self.assertIs(is_paper(claim, value), False, (claim["claim"], value))
        for value in ODD:
            self.assertIs(is_paper(alike(READER, READER.with_care("order", "outer")), value), value is None)
            self.assertIs(is_paper(alike(READER, READER.with_care("finish", "close")), value), False)

    def test_empty_values_are_no_messages(self):
        claim = alike(READER, READER.with_care("finish", "close"), "unlike")
        for value in ([], (), ["a", "--"][1:]):
            self.assertIs(is_paper(claim, value), True)
        for value in ("", "-", {}, frozenset(), range(0), b"", None, False, 0, [None], ["--", 0], [["--"]], "--"):
            self.assertIs(is_paper(claim, value), False)

    def test_chains(self):
        for seed in range(60):
            scheme, rules, parts, _ = some(seed)
            source = random.Random(seed)
            for line in source.sample(brute.lines_up_to(parts.signs, 3), 6):
                for role in scheme.reader.roles():
                    chain = [source.randrange(len(rules)) for _ in range(source.randrange(4))]
                    end = told.turned(rules, line, chain)
                    seen = slow.sees(parts.sight, slow.role_line(parts.marks, parts.tail, role), end)
                    self.assertIs(is_paper(turned(scheme, line, role), chain), seen)
                    self.assertIs(is_paper(turned(scheme, line, role), tuple(chain)), seen)
                    self.assertIs(is_paper(never(scheme, line, role), chain), False)
        claim = turned(Scheme(READER, [STRIP], "any"), ">--", ("next", 1))
        for value, _ in BAD_CHAINS:
            self.assertIs(is_paper(claim, value), False)

    def test_wrong_ways(self):
        for seed in range(60):
            scheme, parts, _ = some_scheme(seed)
            source = random.Random(seed)
            tree = told.some_tree(source, scheme.reader, brute.lines_up_to(parts.signs, 2))
            chain = [source.randrange(len(parts.relays)) for _ in range(source.randrange(4))]
            wanted = told.goes_wrong(scheme, parts, tree, chain)
            self.assertIs(is_paper(sound(scheme, "unsound"), (tree, chain)), wanted)
            self.assertIs(is_paper(sound(scheme, "unsound"), [tree, chain]), False)
            self.assertIs(is_paper(sound(scheme), (tree, chain)), False)

    def test_messages(self):
        for seed in range(80):
            source = random.Random(seed)
            one = told.some_reader(source)
            other = with_other_cares(source, one)
            message = told.some_message(source, one, brute.lines_up_to(one.signs, 2), 0.9)
            unlike = told.read(one, message)[1] != told.read(other, message)[1]
            self.assertIs(is_paper(alike(one, other, "unlike"), message), unlike)
            self.assertIs(is_paper(alike(one, other, "unlike"), tuple(message)), unlike)
            self.assertIs(is_paper(alike(one, other, "unlike"), message + ["?"]), False)
            self.assertIs(is_paper(alike(one, other), message), False)


class Barriers(Case):
    def is_barrier(self, scheme, rules, machine, line, seen):
        """Whether the machine is a barrier, by lines of at most 7 signs: enough for the small ones here."""
        lines = brute.lines_up_to(scheme.signs, 7 if len(scheme.signs) == 2 else 5)
        accepted = {each for each in brute.lines_up_to(scheme.signs, 7) if brute.accepts(scheme.signs, *machine, each)} \
            if len(scheme.signs) == 2 else {each for each in lines if brute.accepts(scheme.signs, *machine, each)}
        return line not in accepted and all(
            each in accepted for each in lines
            if seen(each) or any(brute.turned(relay, each) in accepted for relay in rules))

    def test_other_machines(self):
        found = {True: 0, False: 0}
        for seed in range(150):
            scheme, rules, parts, _ = some(seed)
            source = random.Random(seed)
            signs, role = scheme.signs, source.choice(scheme.reader.roles())
            line = source.choice(brute.lines_up_to(signs, 3))
            mark = slow.role_line(parts.marks, parts.tail, role)
            wide = before(scheme.relays(), scheme.reader.sees(role) | Machine.of_lines(signs, source.sample(
                brute.lines_up_to(signs, 2), 2)))
            machines = [(wide.rows(), wide.ends()), brute.random_form(source, signs, 3)]
            rows, ends = machines[0]
            machines.append((rows, [end for end in range(len(rows)) if (end in ends) != (end == len(rows) - 1)]))
            machines.append((rows, list(range(len(rows)))))
            machines.append(split(source, signs, machines[0]))
            for machine in machines:
                wanted = self.is_barrier(scheme, rules, machine, line, lambda each: slow.sees(parts.sight, mark, each))
                self.assertIs(is_paper(never(scheme, line, role), machine), wanted, (seed, machine))
                found[wanted] = found[wanted] + 1
        self.assertGreater(found[True], 60)
        self.assertGreater(found[False], 200)

    def test_not_in_their_least_form(self):
        scheme = Scheme(PAIR, [STRIP, QUOTE], "any")
        for seed in range(20):
            source = random.Random(seed)
            claim = never(scheme, "a", source.choice(PAIR.roles()))
            paper = paper_for(claim)
            other = split(source, "->a", paper)
            self.assertNotEqual(other, paper)
            self.assertIs(is_paper(claim, other), True)
            self.assertIs(is_paper(claim, ([list(row) for row in other[0]], tuple(other[1]))), True)
            self.assertIs(is_paper(claim, (tuple(other[0]), other[1][::-1])), True)

    def test_what_is_no_machine(self):
        claim = {"claim": "never", "scheme": TIGHT, "line": "a", "role": ("next", 1)}
        rows, ends = paper_for(claim)
        self.assertIs(is_paper(claim, (rows, ends)), True)
        for value in [
            [rows, ends], (rows,), (rows, ends, []), (rows, ends, None), (ends, rows), rows, (rows, None), (None, ends),
            (rows, ends + [ends[0]]), (rows, ends + [len(rows)]), (rows, [True]), (rows, [float]), ([], []), (rows, -1),
            (rows[:-1], []), ([row[:2] for row in rows], ends), ([row + (0,) for row in rows], ends), (rows, ["3"]),
            ([(True, 0, 2)] + rows[1:], ends), (rows + [None], ends), (rows + ["012"], ends), ("012", ends),
            Machine("->a", rows, ends), ("->a", rows, ends), ({0: rows[0]}, ends), (rows, {3}), (AlwaysEqual(), ends),
            (rows + [(0, 0, len(rows) + 1)], ends), (rows, range(1)), (rows, ends, AlwaysEqual()),
        ]:
            self.assertIs(is_paper(claim, value), False, value)
        # As many states as a machine may have, and one more.
        self.assertIs(is_paper(claim, (rows + [(0, 0, 0)] * (300 - len(rows)), ends)), True)
        self.assertIs(is_paper(claim, (rows + [(0, 0, 0)] * (301 - len(rows)), ends)), False)


class Soundness(Case):
    def shown(self, scheme, machines):
        """Whether the machines show that the scheme is sound, each looked at by what it has to accept."""
        reader, relays = scheme.reader, scheme.relays()
        roles = reader.roles()
        if len(machines) != len(roles) + 1:
            return False
        made = [Machine(scheme.signs, *machine) for machine in machines]
        for role, machine in zip(roles, made):
            if not is_barrier(relays, reader.line_of(role), -reader.taken(role, role[1]), machine):
                return False
        last = made[-1]
        return is_closed(relays, last) and seen_somewhere(reader).is_within(last) and last.is_within(scheme.barred())

    def test_other_machines(self):
        found = {True: 0, False: 0}
        for seed in range(110):
            scheme, _, _ = some_scheme(seed)
            if not scheme.is_sound():
                continue
            source = random.Random(seed)
            claim = sound(scheme)
            paper = paper_for(claim)
            self.assertTrue(self.shown(scheme, paper))
            papers = [paper[::-1], paper[:-1], paper + paper[-1:], paper[1:] + paper[:1],
                      [split(source, scheme.signs, machine) for machine in paper], paper[:-1] + [paper[0]]]
            for at in range(len(paper)):
                rows, ends = paper[at]
                flip = source.randrange(len(rows))
                flipped = (rows, [end for end in range(len(rows)) if (end in ends) != (end == flip)])
                wide = before(scheme.relays(), Machine(scheme.signs, rows, ends) | Machine.of_lines(scheme.signs, [
                    source.choice(brute.lines_up_to(scheme.signs, 2))]))
                for other in (flipped, (wide.rows(), wide.ends()), ([(0,) * len(scheme.signs)], [0]),
                              ([(0,) * len(scheme.signs)], [])):
                    papers.append(paper[:at] + [other] + paper[at + 1:])
            for each in papers:
                wanted = self.shown(scheme, each)
                self.assertIs(is_paper(claim, each), wanted, seed)
                self.assertIs(is_paper(claim, tuple(each)), wanted)
                found[wanted] = found[wanted] + 1
            self.assertIs(is_paper(sound(scheme, "unsound"), paper), False)
        self.assertGreater(found[True], 40)
        self.assertGreater(found[False], 200)

    def test_lists_that_are_not_right(self):
        claim = {"claim": "sound", "scheme": TWO}
        paper = paper_for(claim)
        self.assertIs(is_paper(claim, tuple(paper)), True)
        for value in ODD:
            self.assertIs(is_paper(claim, value), False)
            for at in range(len(paper)):
                self.assertIs(is_paper(claim, paper[:at] + [value] + paper[at + 1:]), False)
        self.assertIs(is_paper(claim, [list(each) for each in paper]), False)
        self.assertIs(is_paper(claim, [Machine("->a", *each) for each in paper]), False)

    def test_a_look_bars_more_than_has_to_be(self):
        # By another look than any the last machine may accept more than what becomes a taken line.
        claim = sound(Scheme(READER, [STRIP], "part"))
        paper = paper_for(claim)
        part = Machine.having("->a", "--")
        self.assertIs(is_paper(claim, paper[:-1] + [(part.rows(), part.ends())]), True)
        self.assertIs(is_paper({"claim": "sound", "scheme": TIGHT}, paper[:-1] + [(part.rows(), part.ends())]), False)
        # What is taken alone is not closed.
        taken = Machine.of_lines("->a", ["--", "-->"])
        self.assertIs(is_paper(claim, paper[:-1] + [(taken.rows(), taken.ends())]), False)
        for at in range(2):
            lost = Machine.every("->a") - Machine.of_lines("->a", [">" * many + "--" + ">" * at for many in range(3)])
            self.assertIs(is_paper(claim, [(lost.rows(), lost.ends()) if each == at else paper[each]
                                           for each in range(3)]), False)
        more = part | Machine.of_lines("->a", ["a"])
        self.assertIs(is_paper(claim, paper[:-1] + [(more.rows(), more.ends())]), False)

    def test_papers_of_what_is_not_so(self):
        # Nothing shows that a scheme is sound which is not; nor has a body that is not clear such a machine.
        for look in ("none", "whole", "start"):
            scheme = Scheme(READER, [STRIP], look)
            paper = paper_for({"claim": "sound", "scheme": TIGHT})
            self.assertIs(is_paper(sound(scheme), paper), False)
            self.assertIs(is_true(sound(scheme)), False)


class Wrong(Case):
    RIGHT = [
        {"claim": "turned", "scheme": TIGHT, "line": "", "role": ("next", 1)},
        {"claim": "never", "scheme": TWO, "line": "->a", "role": ("end", 2)},
        {"claim": "sound", "scheme": TIGHT}, {"claim": "unsound", "scheme": TIGHT},
        {"claim": "alike", "scheme": TIGHT, "other": LOOSE}, {"claim": "unlike", "scheme": TIGHT, "other": LOOSE},
    ]

    def wrong(self, value):
        told = {"value": value}
        self.fails(InvalidClaim, told, is_true, value)
        self.fails(InvalidClaim, told, paper_for, claim=value)
        self.fails(InvalidClaim, told, is_paper, value, None)
        self.fails(InvalidClaim, told, is_paper, value=[], claim=value)

    def test_right_ones(self):
        for claim in self.RIGHT:
            self.assertIn(is_true(claim), (True, False))
            self.assertIs(is_paper(claim, 7), False)

    def test_other_kinds(self):
        for value in STRANGE + ["", TIGHT, 0, [], (), [self.RIGHT[2]], list(self.RIGHT[2].items()), AlwaysEqual()]:
            self.wrong(value)
        self.wrong({})

    def test_keys(self):
        for claim in self.RIGHT:
            for key in claim:
                self.wrong({name: claim[name] for name in claim if name != key})
                self.wrong({("x" if name == key else name): claim[name] for name in claim})
            for key in ("x", "paper", "line", "role", "other", "", 0, None, ("claim",)):
                if key not in claim:
                    self.wrong({**claim, key: ""})
                    self.wrong({**claim, key: TIGHT})

    def test_words(self):
        for claim in self.RIGHT:
            for word in STRANGE + ["", "Sound", "true", "x", 0, ("sound",), ["sound"], AlwaysEqual()]:
                self.wrong({**claim, "claim": word})
            for word in ("turned", "never", "sound", "unsound", "alike", "unlike"):
                fits = [set(each) for each in self.RIGHT if each["claim"] == word][0] == set(claim)
                if fits:
                    is_true({**claim, "claim": word})
                else:
                    self.wrong({**claim, "claim": word})

    def test_texts(self):
        for claim in self.RIGHT:
            for name in ("scheme", "other"):
                if name in claim:
                    for value in STRANGE + ["", TIGHT[:-1], TIGHT + "\n", TIGHT.replace("signs", "sign"), 0, [TIGHT],
                                            Scheme(READER, [STRIP], "any"), AlwaysEqual(), READER]:
                        self.wrong({**claim, name: value})

    def test_line_and_role(self):
        for claim in self.RIGHT[:2]:
            for value in BAD_LINES + [AlwaysEqual(), "_"]:
                self.wrong({**claim, "line": value})
            for value in BAD_ROLES + [("next", 3), ["next", 1]]:
                self.wrong({**claim, "role": value})
        self.wrong({**self.RIGHT[0], "role": ("end", 2)})
        self.wrong({**self.RIGHT[1], "role": ("next", 3)})

    def test_readers_that_cannot_be_held(self):
        others = [PAIR, Reader("->a", ["->"], ">"), Reader("->a", ["--"], "a"), Reader("->b", ["--"], ">")]
        for one in others:
            for kind in ("alike", "unlike"):
                self.wrong(alike(READER, one, kind))
                self.wrong(alike(one, READER, kind))

    def test_nothing_is_changed(self):
        for claim in self.RIGHT:
            kept = dict(claim)
            is_true(claim)
            is_paper(claim, None)
            try:
                paper_for(claim)
            except Untrue:
                pass
            self.assertEqual(claim, kept)


class Limits(Case):
    STEPS = {"what": "steps", "limit": 200}

    def test_chains_of_200(self):
        scheme = Scheme(READER, [STRIP], "any")
        claim = turned(scheme, ">" * 200 + "--", ("next", 1))
        self.assertEqual(paper_for(claim), [0] * 200)
        claim = turned(scheme, ">" * 201 + "--", ("next", 1))
        self.fails(TooMany, self.STEPS, paper_for, claim)
        self.assertIs(is_true(claim), True)
        self.assertIs(is_paper(claim, [0] * 201), True)
        self.assertIs(is_paper(claim, [0] * 200), False)

    def test_wrong_ways_of_200(self):
        claim = sound(by_steps([6, 5, 2, 0, 0]), "unsound")
        self.assertEqual(len(paper_for(claim)[1]), 200)
        self.assertIs(is_paper(claim, paper_for(claim)), True)
        for codes in ([6, 5, 2, 1], [150]):
            scheme = by_steps(codes)
            self.fails(TooMany, self.STEPS, paper_for, sound(scheme, "unsound"))
            self.assertIs(is_true(sound(scheme, "unsound")), True)
            self.assertIs(is_true(sound(scheme)), False)
            self.fails(Untrue, {}, paper_for, sound(scheme))

    def test_steps_that_are_too_many_to_be_told(self):
        scheme = by_steps([150])
        self.assertIs(is_true(turned(scheme, "", ("next", 1))), True)
        self.assertIs(is_true(never(scheme, "", ("next", 1))), False)
        self.fails(TooMany, self.STEPS, paper_for, turned(scheme, "", ("next", 1)))
        self.fails(Untrue, {}, paper_for, never(scheme, "", ("next", 1)))
        self.assertIs(is_wrong_way(scheme, ([[""]], [1])), False)
