"""Texts of schemes [91]."""

from frontlines.checks import is_mark, is_rule, is_sight, is_tail, is_word
from frontlines.errors import InvalidText
from frontlines.lines import is_signs, line_of_word, word_of_line
from frontlines.readers import MOST_LEVELS, Reader
from frontlines.relays import MOST_RULES, Relay
from frontlines.schemes import Scheme
from frontlines.turns import MOST_RELAYS
from frontlines.words import CARE_WORDS, CARES, LOOKS


def text_of(scheme):
    """The text of the scheme."""
    reader = scheme.reader
    rows = [f"signs {scheme.signs}"]
    for relay in scheme.relays():
        rules = [f"{kind} {word_of_line(old)} {word_of_line(new)}" for kind, old, new in relay.rules()]
        rows.append(" ".join(["relay"] + rules))
    rows.extend([f"mark {mark}" for mark in reader.marks()])
    rows.append(f"tail {reader.tail}")
    cares = reader.cares()
    rows.extend([f"{name} {cares[name]}" for name in CARES])
    rows.append(f"look {scheme.look}")
    return "".join([f"{row}\n" for row in rows])


class Rest:
    """The lines of a text, and how many of them were read."""

    def __init__(self, text):
        # Behind the last line feed stands nothing, or a line that lacks one: neither is read.
        self.lines = text.split("\n")
        self.read = 0

    def words(self):
        """The words of the next line; none if there is no line, or one without a line feed."""
        return self.lines[self.read].split(" ") if self.read < len(self.lines) - 1 else []

    def begins_with(self, name):
        """Whether the next line begins with the name."""
        return self.words()[:1] == [name]

    def take(self, fits):
        """InvalidText with the number of the next line unless it fits; then it is read."""
        if not fits:
            raise InvalidText(self.read + 1)
        self.read = self.read + 1

    def word(self, name, is_right):
        """The word behind the name in the next line, which has just these two; is_right tells which may stand there."""
        words = self.words()
        self.take(len(words) == 2 and words[0] == name and is_right(words[1]))
        return words[1]

    def relay(self, signs):
        """The Relay of the next line."""
        words = self.words()
        rules = rules_told(signs, words[1:])
        self.take(words[:1] == ["relay"] and rules is not None)
        return Relay(signs, rules)

    def end(self):
        """InvalidText unless all lines are read."""
        if self.lines[self.read:] != [""]:
            raise InvalidText(self.read + 1)


def rules_told(signs, words):
    """The list of the rules that the words tell, three of them each; None if they tell none, or too many."""
    if len(words) % 3 != 0 or len(words) > 3 * MOST_RULES:
        return None
    found = []
    for at in range(0, len(words), 3):
        kind, old, new = words[at:at + 3]
        rule = (kind, line_of_word(signs, old), line_of_word(signs, new))
        if not is_rule(signs, rule):
            return None
        found.append(rule)
    return found


def read_scheme(text):
    """The Scheme of the text."""
    if not isinstance(text, str):
        raise InvalidText(1)
    rest = Rest(text)
    signs = rest.word("signs", is_signs)
    relays = [rest.relay(signs)]
    while len(relays) < MOST_RELAYS and rest.begins_with("relay"):
        relays.append(rest.relay(signs))
    reader = read_reader(rest, signs)
    look = rest.word("look", lambda word: is_word(word, LOOKS))
    rest.end()
    return Scheme(reader, relays, look)


def read_reader(rest, signs):
    """The Reader that is told from the first mark on."""
    marks = [rest.word("mark", lambda word: is_mark(signs, word))]
    while len(marks) < MOST_LEVELS and rest.begins_with("mark"):
        marks.append(rest.word("mark", lambda word: is_mark(signs, word) and word not in marks))
    tail = rest.word("tail", lambda word: is_tail(signs, word))
    cares = {"sight": rest.word("sight", lambda word: is_sight(signs, word))}
    for name, words in CARE_WORDS.items():
        cares[name] = rest.word(name, lambda word: word in words)
    return Reader(signs, marks, tail, **cares)
