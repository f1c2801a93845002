"""Numbers [2], signs and lines [11], and the order of lines."""

SIGN_CHARACTERS = "abcdefghijklmnopqrstuvwxyz0123456789.-=>|"
EMPTY_WORD = "_"


def is_integer(value):
    """Whether the value is an INTEGER."""
    return isinstance(value, int) and not isinstance(value, bool)


def is_count(value):
    """Whether the value is a COUNT."""
    return is_integer(value) and value >= 0


def is_list(value):
    """Whether the value may stand where a list is passed."""
    return isinstance(value, (list, tuple))


def is_signs(value):
    """Whether the value is a string of 2 to 4 signs in ascending order."""
    if not isinstance(value, str) or len(value) < 2 or len(value) > 4:
        return False
    rising = all([first < second for first, second in zip(value, value[1:])])
    return rising and is_line(SIGN_CHARACTERS, value)


def is_line(signs, value):
    """Whether the value is a line of the signs."""
    # Only what is made of signs throughout is stripped away wholly.
    return isinstance(value, str) and value.strip(signs) == ""


def line_order(line):
    """What lines are sorted by: the length, then the order of Python."""
    return (len(line), line)


def in_order(lines):
    """The list of the lines in order."""
    return sorted(list(lines), key=line_order)


def word_of_line(line):
    """The word by which texts and commands tell a line."""
    return EMPTY_WORD if line == "" else line


def line_of_word(signs, word):
    """The line of the signs that a word tells; None if it tells none."""
    if word == EMPTY_WORD:
        return ""
    return word if word != "" and is_line(signs, word) else None
