"""Schemes with something changed, and the errors of what cannot be changed so."""

from frontlines.checks import check_level, check_look, check_mark, check_tail, is_place, is_word
from frontlines.errors import InvalidLevel, InvalidMarks, InvalidRelays
from frontlines.readers import Reader
from frontlines.relays import Relay
from frontlines.schemes import Scheme
from frontlines.turns import MOST_RELAYS


def with_reader(scheme, reader):
    """The scheme with another reader."""
    return Scheme(reader, scheme.relays(), scheme.look)


def with_marks(scheme, marks):
    """The scheme with other marks."""
    reader = scheme.reader
    cares = reader.cares()
    return with_reader(scheme, Reader(reader.signs, marks, reader.tail, **cares))


def with_mark(scheme, level, mark):
    """The scheme with another mark of the level."""
    reader = scheme.reader
    check_level(reader.depth, level)
    check_mark(reader.signs, mark)
    marks = reader.marks()
    for place, known in enumerate(marks):
        if place != level - 1 and known == mark:
            raise InvalidMarks(max(place, level - 1))
    return with_marks(scheme, marks[:level - 1] + [mark] + marks[level:])


def without_level(scheme, level):
    """The scheme without the level."""
    marks = scheme.reader.marks()
    check_level(len(marks), level)
    if len(marks) == 1:
        raise InvalidLevel(level)
    return with_marks(scheme, marks[:level - 1] + marks[level:])


def with_tail(scheme, tail):
    """The scheme with another tail."""
    reader = scheme.reader
    check_tail(reader.signs, tail)
    cares = reader.cares()
    return with_reader(scheme, Reader(reader.signs, reader.marks(), tail, **cares))


def with_word(scheme, name, word):
    """The scheme with another word for a care, or for the look."""
    if is_word(name, ("look",)):
        check_look(word)
        return Scheme(scheme.reader, scheme.relays(), word)
    return with_reader(scheme, scheme.reader.with_care(name, word))


def with_relays(scheme, relays):
    """The scheme with other relays."""
    return Scheme(scheme.reader, relays, scheme.look)


def with_relay(scheme, relay):
    """The scheme with a relay more, behind the others."""
    relays = scheme.relays()
    if len(relays) == MOST_RELAYS:
        raise InvalidRelays(None)
    if not isinstance(relay, Relay) or relay.signs != scheme.signs:
        raise InvalidRelays(len(relays))
    return with_relays(scheme, relays + [relay])


def without_relay(scheme, number):
    """The scheme without the relay of this number."""
    relays = scheme.relays()
    if not is_place(number, len(relays)):
        raise InvalidRelays(number)
    if len(relays) == 1:
        raise InvalidRelays(None)
    return with_relays(scheme, relays[:number] + relays[number + 1:])
