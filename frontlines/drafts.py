"""Drafts: schemes that can be changed."""

from frontlines.changes import with_mark, with_relay, with_tail, with_word, without_level, without_relay


class Draft:
    """A scheme that can be changed; the schemes that it was stay as they were."""

    def __init__(self, scheme):
        self._scheme = scheme

    @property
    def scheme(self):
        """The scheme as it stands."""
        return self._scheme

    def __len__(self):
        return len(self._scheme.reader.marks())

    def __getitem__(self, at):
        reader = self._scheme.reader
        return reader[at]

    def __setitem__(self, at, worth):
        self._scheme = with_mark(self._scheme, at, worth)

    def __iter__(self):
        raise TypeError("a draft is not iterated over")

    def __iadd__(self, other):
        self._scheme = with_relay(self._scheme, other)
        return self

    def drop(self, level):
        """Takes a level away."""
        self._scheme = without_level(self._scheme, level)

    def put_tail(self, tail):
        """Puts another tail."""
        self._scheme = with_tail(self._scheme, tail)

    def put_care(self, name, word):
        """Puts another word for a care, or for the look."""
        self._scheme = with_word(self._scheme, name, word)

    def take_away(self, number):
        """Takes the relay of this number away."""
        self._scheme = without_relay(self._scheme, number)

    def tried_by(self, action):
        """What the action returns for the draft, whose scheme then is as it was."""
        kept = self._scheme
        try:
            return action(self)
        finally:
            self._scheme = kept
