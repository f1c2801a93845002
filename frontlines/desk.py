"""A desk: a scheme, and commands that change it and ask for what it tells [93]."""

from frontlines.chains import line_turned
from frontlines.changes import with_mark, with_relay, with_relays, with_word
from frontlines.commands import command_of
from frontlines.errors import (
    CommandFailed,
    InvalidCommand,
    InvalidRelays,
    InvalidRules,
    LimitError,
    LineError,
    NothingToUndo,
    StateError,
)
from frontlines.lines import word_of_line
from frontlines.relays import Relay
from frontlines.stands import telling_of


def check_number(scheme, number):
    """InvalidRelays unless the number of a relay."""
    if number >= len(scheme.relays()):
        raise InvalidRelays(number)


def with_rules(scheme, number, rules):
    """The scheme with other rules of the relay of this number."""
    relays = scheme.relays()
    return with_relays(scheme, relays[:number] + [Relay(scheme.signs, rules)] + relays[number + 1:])


def rules_at(scheme, number):
    """The list of the rules of the relay of this number."""
    check_number(scheme, number)
    relays = scheme.relays()
    return relays[number].rules()


def relay_put(scheme, given):
    """A relay more: a tuple (answer, scheme), as of all that change the scheme."""
    return str(len(scheme.relays())), with_relay(scheme, Relay(scheme.signs, []))


def rule_put(scheme, given):
    """A rule more."""
    number, kind, old, new = given
    rules = rules_at(scheme, number) + [(kind, old, new)]
    return str(len(rules)), with_rules(scheme, number, rules)


def rule_cut(scheme, given):
    """A rule less."""
    number = given[0]
    rules = rules_at(scheme, number)
    if not rules:
        raise InvalidRules(None)
    return str(len(rules) - 1), with_rules(scheme, number, rules[:-1])


def mark_put(scheme, given):
    """Another mark."""
    level, mark = given
    return "done", with_mark(scheme, level, mark)


def care_put(scheme, given):
    """Another word for a care or the look."""
    name, word = given
    return "done", with_word(scheme, name, word)


def turn_told(scheme, given):
    """The line turned by a chain."""
    line, chain = given[0], given[1:]
    for number in chain:
        check_number(scheme, number)
    return word_of_line(line_turned(scheme.relays(), line, chain))


def sound_told(scheme, given):
    """Whether the scheme is sound, or its first fault."""
    fault = scheme.first_fault()
    if fault is None:
        return "yes"
    role, line, steps = fault
    word, level = ("body", 0) if role == "body" else role
    return f"no {word} {level} {word_of_line(line)} {steps}"


def tell_told(scheme, given):
    """The telling of the message."""
    tellings = telling_of(scheme.reader, given)
    if tellings is None:
        return "refused"
    told = [word if word == "line" else f"{word} {level}" for word, level in tellings]
    return ", ".join(told) if told else "-"


CHANGES = {"relay": relay_put, "rule": rule_put, "cut": rule_cut, "mark": mark_put, "care": care_put}
ANSWERS = {"turn": turn_told, "sound": sound_told, "tell": tell_told}


class Desk:
    """A scheme that commands change, and the commands that can be taken back."""

    def __init__(self, scheme):
        self._scheme = scheme
        # For each command that was done and not taken back a tuple (command, the scheme before it).
        self._done = []

    @property
    def scheme(self):
        """The scheme as it stands."""
        return self._scheme

    def do(self, command):
        """Does the command: the answer."""
        parts = command_of(self._scheme.signs, command)
        if parts is None:
            raise InvalidCommand(command)
        name, given = parts
        if name == "undo":
            return self._taken_back()
        if name in ANSWERS:
            answer_of = ANSWERS[name]
            return answer_of(self._scheme, given)
        change = CHANGES[name]
        answer, scheme = change(self._scheme, given)
        self._done.append((command, self._scheme))
        self._scheme = scheme
        return answer

    def _taken_back(self):
        """Takes the last command back that was done: its line."""
        if not self._done:
            raise NothingToUndo()
        command, scheme = self._done.pop()
        self._scheme = scheme
        return command

    def do_all(self, *commands):
        """Does all commands: the list of the answers; none has an effect if one fails."""
        scheme, done = self._scheme, list(self._done)
        answers = []
        for position, command in enumerate(commands):
            try:
                answers.append(self.do(command))
            except (LineError, StateError, LimitError) as error:
                self._scheme, self._done = scheme, done
                raise CommandFailed(position) from error
        return answers

    def log(self):
        """The list of the commands that were done and not taken back."""
        return [command for command, _ in self._done]
