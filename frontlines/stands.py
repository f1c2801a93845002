"""How a reader goes through a message [62]: its stands, and what it tells lines as."""

START = (1, "wait")
CLOSED = (0, "wait")
PLAIN = ("line", 0)


def told_behind(reader, stand, role):
    """A tuple (what a line is told as, the stand behind it) if it is taken for the role, or for None; None if refused.

    The stand is another one than CLOSED, with which each line has the message refused.
    """
    level, word = stand
    if role is None:
        return (PLAIN, stand) if word == "body" else None
    kind, at = role
    if at < level and reader.further == "refuse":
        return None
    if kind == "end":
        return role, (at - 1, "wait")
    return role, ((at, "body") if at == reader.depth else (at + 1, "wait"))


def line_told(reader, stand, line):
    """The tuple of told_behind for a line; None if it has the message refused."""
    return None if stand == CLOSED else told_behind(reader, stand, reader.role_at(line, stand[0]))


def is_finished(reader, stand):
    """Whether a message may end with the stand."""
    return stand == CLOSED or reader.finish == "close"


def course_of(reader, message):
    """A tuple of the list of the stands, as course tells it, and the list of what the lines before are told as."""
    stands = [START]
    tellings = []
    for line in message:
        told = line_told(reader, stands[-1], line)
        if told is None:
            return stands, tellings
        tellings.append(told[0])
        stands.append(told[1])
    return stands, tellings


def telling_of(reader, message):
    """The telling of the message; None if it is refused."""
    stands, tellings = course_of(reader, message)
    if len(tellings) < len(message) or not is_finished(reader, stands[-1]):
        return None
    return tellings
