"""Whether two readers understand all messages alike [81]."""

from frontlines.chains import form_of
from frontlines.checks import check_message
from frontlines.errors import OtherReaders
from frontlines.menus import Groups, sorts_of
from frontlines.stands import CLOSED, START, is_finished, telling_of, told_behind


def can_be_held(one, other):
    """Whether both readers can be held together."""
    return one.signs == other.signs and one.marks() == other.marks() and one.tail == other.tail


def check_held(one, other):
    """OtherReaders unless both can be held together."""
    if not can_be_held(one, other):
        raise OtherReaders(one, other)


def line_views(one, other):
    """The list of the tuples (roles, roles, line) of all views, with the least line of each, in order."""
    check_held(one, other)
    roles = one.roles()
    groups = Groups(one.signs, [form_of(reader.sees(role)) for reader in (one, other) for role in roles])
    # A sort is that of twice as many forms as there are roles: first those of the one reader, then of the other.
    half = len(roles)
    views = []
    for sort, line in sorts_of(groups):
        seen = [roles[place] for place in sort if place < half]
        views.append((seen, [roles[place - half] for place in sort if place >= half], line))
    return views


def is_unlike_at(one, other, message):
    """Whether both readers are unlike at the message."""
    check_message(one.signs, message)
    check_held(one, other)
    return telling_of(one, message) != telling_of(other, message)


def are_alike(one, other):
    """Whether there is no message at which both readers are unlike."""
    return unlike_message(one, other) is None


def unlike_message(one, other):
    """The least message at which both readers are unlike; None.

    Pairs (stand, stand, are the tellings equal so far) are met by their least messages, in order. Lines of one view
    are told alike, so the least one of each is enough.
    """
    views = line_views(one, other)
    met = [(START, START, True)]
    messages = {met[0]: []}
    at = 0
    while at < len(met):
        pair = met[at]
        if is_unlike_pair(one, other, pair):
            return messages[pair]
        for view in views:
            behind = pair_behind(one, other, pair, view)
            if behind not in messages:
                met.append(behind)
                messages[behind] = messages[pair] + [view[2]]
        at = at + 1
    return None


def pair_behind(one, other, pair, view):
    """The pair behind a line with the view; a stand is None if the message is refused."""
    one_told = told_at_view(one, pair[0], view[0])
    other_told = told_at_view(other, pair[1], view[1])
    if one_told is None or other_told is None:
        return stand_of(one_told), stand_of(other_told), pair[2]
    return one_told[1], other_told[1], pair[2] and one_told[0] == other_told[0]


def told_at_view(reader, stand, seen):
    """The tuple of told_behind for a line in which these roles' lines are seen; None if the message is refused."""
    if stand is None or stand == CLOSED:
        return None
    asked = [role for role in reader.asked(stand[0]) if role in seen]
    return told_behind(reader, stand, asked[0] if asked else None)


def stand_of(told):
    """The stand behind a line; None if it had the message refused."""
    return None if told is None else told[1]


def is_unlike_pair(one, other, pair):
    """Whether the readers are unlike at a message that ends with the pair."""
    one_told = pair[0] is not None and is_finished(one, pair[0])
    other_told = pair[1] is not None and is_finished(other, pair[1])
    return one_told != other_told or (one_told and not pair[2])
