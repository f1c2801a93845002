"""The commands of a desk, as they are read [93]."""

from frontlines.checks import is_rule_line
from frontlines.lines import line_of_word
from frontlines.words import CARES, RULE_WORDS

# What each word behind the name of a command has to be, and what all words behind these, if there may be more.
FORMS = {
    "relay": (),
    "rule": ("number", "kind", "short", "short"),
    "cut": ("number",),
    "mark": ("level", "line"),
    "care": ("name", "word"),
    "undo": (),
    "turn": ("line",),
    "sound": (),
    "tell": (),
}
MORE = {"turn": "number", "tell": "line"}


def words_of(value):
    """The words of a line with one space between them; none if the value is no such line."""
    words = value.split(" ") if isinstance(value, str) and "\n" not in value else []
    return [] if "" in words else words


def forms_of(words):
    """What the words of a command have to be, behind the first one; None if these are too few or too many."""
    if words == [] or words[0] not in FORMS:
        return None
    forms = list(FORMS[words[0]])
    if words[0] in MORE:
        forms.extend([MORE[words[0]] for _ in words[len(forms) + 1:]])
    return forms if len(words) == len(forms) + 1 else None


def worth_of(signs, form, word):
    """What a word tells that has to be of the form; None if it is not."""
    if form == "number":
        return int(word) if word in ("0", "1", "2", "3", "4") else None
    if form == "level":
        return int(word) if len(word) == 1 and word in "123456789" else None
    if form == "kind":
        return word if word in RULE_WORDS else None
    if form == "name":
        return word if word in CARES or word == "look" else None
    if form == "word":
        return word
    line = line_of_word(signs, word)
    return line if form == "line" or is_rule_line(signs, line) else None


def command_of(signs, value):
    """A tuple (name, list of what the words behind it tell) of a command; None if the value is none."""
    words = words_of(value)
    forms = forms_of(words)
    if forms is None:
        return None
    worths = [worth_of(signs, form, word) for form, word in zip(forms, words[1:])]
    return None if any([worth is None for worth in worths]) else (words[0], worths)
