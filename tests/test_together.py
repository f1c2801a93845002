"""The whole program: several objects used by turns tell what they told alone."""

import random

from frontlines import alike, breaks, chains, claims, texts, trees
from frontlines.desk import Desk
from frontlines.drafts import Draft
from frontlines.errors import CommandFailed, LimitError, LineError, StateError
from frontlines.machines import Machine
from frontlines.readers import Reader
from frontlines.relays import Relay
from frontlines.schemes import Scheme
from frontlines.writers import Writer
from tests import brute, slow, told
from tests.cases import Case
from tests.test_desk import some_command


def put(draft, level, mark):
    draft[level] = mark


def add(draft, relay):
    draft += relay


def told_by(call):
    """What the call tells, or which error it raises, as a string."""
    try:
        return repr(call())
    except (LineError, StateError, LimitError) as error:
        return repr((error.__class__, vars(error), error.__cause__.__class__))


class Worker:
    """A reader, a writer, a scheme, a draft and a desk, and a row of calls of them, made from a number."""

    def __init__(self, seed):
        self.source = random.Random(seed)
        self.reader = told.some_reader(self.source)
        self.signs = self.reader.signs
        self.rules = [slow.shrinking_rules(self.source, self.signs, 2, 3) for _ in range(2)]
        self.relays = [Relay(self.signs, each) for each in self.rules]
        self.look = self.source.choice(slow.LOOKS)
        self.writer = Writer(self.relays, self.reader.sight, self.look)
        self.scheme = Scheme(self.reader, self.relays, self.look)
        self.draft, self.desk = Draft(self.scheme), Desk(self.scheme)
        self.lines = brute.lines_up_to(self.signs, 3)
        self.answers = []

    def line(self):
        return self.source.choice(self.lines)

    def calls(self):
        reader, scheme, writer, draft, source = self.reader, self.scheme, self.writer, self.draft, self.source
        mark, line, other = source.choice(reader.marks()), self.line(), self.line()
        role, tree = source.choice(reader.roles()), told.some_tree(source, reader, self.lines)
        message = told.some_message(source, reader, self.lines)
        machine = Machine.of_lines(self.signs, [line, other])
        name, width = source.choice(["order", "further", "finish", "look"]), source.randrange(1, 5)
        word, number = source.choice(["inner", "outer", "refuse", "close", "any", "part"]), source.randrange(3)
        claim = {"claim": source.choice(["turned", "never"]), "scheme": texts.text_of(draft.scheme), "line": line,
                 "role": role}
        command = some_command(source, self.signs)
        return [
            lambda: writer.is_safe(mark), lambda: writer.first_unsafe(mark), lambda: writer.sorts(reader.marks()),
            lambda: scheme.faults(), lambda: scheme.lets(line), lambda: scheme.sound_sets(), lambda: scheme.barred(),
            lambda: reader.role_at(line, 1), lambda: reader.taken(role, role[1]), lambda: trees.written(reader, tree),
            lambda: trees.telling(reader, message), lambda: trees.wrong_way(draft.scheme),
            lambda: trees.goes_wrong(scheme, tree, [number]), lambda: breaks.coming(self.relays, width, machine),
            lambda: breaks.first_coming(draft.scheme, width), lambda: breaks.first_longer(scheme, width),
            lambda: alike.unlike_message(reader, draft.scheme.reader), lambda: chains.before(self.relays, machine),
            lambda: put(draft, source.randrange(3), other), lambda: draft.drop(number), lambda: draft.put_tail(other),
            lambda: draft.put_care(name, word), lambda: add(draft, self.relays[number % 2]),
            lambda: draft.take_away(number), lambda: draft.tried_by(lambda given: (given.put_tail("a"), given.scheme)),
            lambda: texts.text_of(draft.scheme), lambda: texts.read_scheme(texts.text_of(self.desk.scheme)),
            lambda: claims.is_true(claim), lambda: claims.paper_for(claim), lambda: claims.is_paper(claim, [number % 2]),
            lambda: self.desk.do(command), lambda: self.desk.do(command), lambda: self.desk.do(command),
            lambda: self.desk.do_all(command, "undo", command), lambda: self.desk.log(),
        ]

    def go_on(self):
        self.answers.append(told_by(self.source.choice(self.calls())))


class ByTurns(Case):
    def test_as_alone(self):
        alone = []
        for seed in range(6):
            worker = Worker(seed)
            for _ in range(120):
                worker.go_on()
            alone.append((worker.answers, repr((worker.draft.scheme, worker.desk.scheme, worker.desk.log()))))
        workers = [Worker(seed) for seed in range(6)]
        turns = [worker for worker in workers for _ in range(120)]
        random.Random(0).shuffle(turns)
        for worker in turns:
            worker.go_on()
        found = [(worker.answers, repr((worker.draft.scheme, worker.desk.scheme, worker.desk.log()))) for worker in workers]
        self.assertEqual(found, alone)

    def test_objects_that_share_parts(self):
        reader = Reader("->a", ["--", "->"], ">")
        strip, quote = Relay("->a", [("front", ">", "")]), Relay("->a", [("front", "-", ">-")])
        relays = [strip, quote]
        loose, tight = Scheme(reader, relays, "whole"), Scheme(reader, relays, "any")
        draft, desks = Draft(loose), [Desk(loose), Desk(loose), Desk(tight)]
        first = [repr((loose.faults(), tight.faults(), Writer(relays, "whole", "any").safe_sets("--"), reader.roles()))]
        for step in range(6):
            add(draft, strip) if step % 2 else draft.put_care("look", slow.LOOKS[step % 5])
            desks[step % 2].do("care sight start" if step % 3 else "relay")
            desks[2].do_all("mark 1 a", "undo")
            relays.append(strip)
            relays.pop()
            first.append(repr((loose.faults(), tight.faults(), Writer(relays, "whole", "any").safe_sets("--"),
                               reader.roles())))
            self.assertEqual(desks[2].scheme, tight)
        self.assertEqual(len(set(first)), 1)
        self.assertEqual([len(desk.log()) for desk in desks], [3, 3, 0])
        self.assertEqual([desk.do("undo") for desk in desks[:2]], ["care sight start"] * 2)

    def test_a_desk_in_a_tried_draft(self):
        draft = Draft(Scheme(Reader("->a", ["--"], ">"), [Relay("->a", [("front", ">", "")])], "whole"))

        def action(given):
            given.put_care("look", "any")
            desk = Desk(given.scheme)
            self.assertRaises(CommandFailed, desk.do_all, "relay", "cut 1")
            return desk.do("sound"), Draft(desk.scheme).tried_by(lambda each: each.put_care("look", "none"))

        self.assertEqual(draft.tried_by(action), ("yes", None))
        self.assertEqual(Desk(draft.scheme).do("sound"), "no body 0 >-- 1")


class Promises(Case):
    """What the document guarantees over all parts."""

    def test_one_line(self):
        # A scheme is told to be sound just if no small tree and chain go wrong, whatever else is told of it.
        for seed in range(60):
            source = random.Random(seed)
            reader = told.some_reader(source, depth=2, signs="ab")
            rules = [slow.shrinking_rules(source, "ab", 2, 2) for _ in range(2)]
            scheme = Scheme(reader, [Relay("ab", each) for each in rules], source.choice(slow.LOOKS))
            text = texts.text_of(scheme)
            sound = claims.is_true({"claim": "sound", "scheme": text})
            self.assertIs(sound, scheme.is_sound())
            self.assertEqual(Desk(scheme).do("sound") == "yes", sound)
            self.assertEqual(scheme.faults() == [], sound)
            self.assertEqual(trees.wrong_way(scheme) is None, sound)
            wrong = False
            lines = [line for line in brute.lines_up_to("ab", 3) if scheme.lets(line)] or [""]
            for _ in range(30):
                tree = told.some_tree(source, reader, lines)
                chain = [source.randrange(2) for _ in range(source.randrange(4))]
                wrong = wrong or trees.goes_wrong(scheme, tree, chain)
            self.assertFalse(sound and wrong)

    def test_alike(self):
        for seed in range(40):
            source = random.Random(seed)
            one = told.some_reader(source, depth=2)
            other = one.with_care("order", "outer").with_care("further", source.choice(["refuse", "close"]))
            pair = [texts.text_of(Scheme(each, [Relay(one.signs, [])], "any")) for each in (one, other)]
            found = alike.are_alike(one, other)
            self.assertIs(claims.is_true({"claim": "alike", "scheme": pair[0], "other": pair[1]}), found)
            for _ in range(20):
                message = told.some_message(source, one, brute.lines_up_to(one.signs, 2), 0.9)
                if found:
                    self.assertEqual(trees.telling(one, message), trees.telling(other, message))
