"""Schemes with something changed; what cannot be changed so is refused as where the parts are made."""

from frontlines.checks import check_level, check_mark, is_place, is_word
from frontlines.errors import InvalidLevel, InvalidRelays
from frontlines.readers import Reader
from frontlines.schemes import Scheme


def with_reader(scheme, reader):
    """The scheme with another reader."""
    return Scheme(reader, scheme.relays(), scheme.look)


def with_lines(scheme, marks, tail):
    """The scheme with other marks and another tail."""
    signs = scheme.signs
    cares = scheme.reader.cares()
    return with_reader(scheme, Reader(signs, marks, tail, **cares))


def with_mark(scheme, level, mark):
    """The scheme with another mark of the level."""
    marks = scheme.reader.marks()
    check_level(len(marks), level)
    check_mark(scheme.signs, mark)
    return with_lines(scheme, marks[:level - 1] + [mark] + marks[level:], scheme.reader.tail)


def without_level(scheme, level):
    """The scheme without the level."""
    marks = scheme.reader.marks()
    check_level(len(marks), level)
    if len(marks) == 1:
        raise InvalidLevel(level)
    return with_lines(scheme, marks[:level - 1] + marks[level:], scheme.reader.tail)


def with_tail(scheme, tail):
    """The scheme with another tail."""
    return with_lines(scheme, scheme.reader.marks(), tail)


def with_word(scheme, name, word):
    """The scheme with another word for a care, or for the look."""
    if is_word(name, ("look",)):
        return Scheme(scheme.reader, scheme.relays(), word)
    return with_reader(scheme, scheme.reader.with_care(name, word))


def with_relays(scheme, relays):
    """The scheme with other relays."""
    return Scheme(scheme.reader, relays, scheme.look)


def with_relay(scheme, relay):
    """The scheme with a relay more, behind the others."""
    return with_relays(scheme, scheme.relays() + [relay])


def without_relay(scheme, number):
    """The scheme without the relay of this number."""
    relays = scheme.relays()
    if not is_place(number, len(relays)):
        raise InvalidRelays(number)
    return with_relays(scheme, relays[:number] + relays[number + 1:])
