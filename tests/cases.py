"""What several test files share: a test case that looks at errors closely, and values of other kinds."""

import unittest

# None of these is a string, an integer, a list or a tuple.
STRANGE = [None, True, False, b"ab", {}, {"a": 1}, {1, 2}, frozenset(), object(), range(3), iter([]), ValueError, len]


class AlwaysEqual:
    """Says that it is equal to anything."""

    def __eq__(self, other):
        return True

    __hash__ = None


class Case(unittest.TestCase):
    def fails(self, error, attributes, call, *given, **named):
        """The call raises just this error, and its attributes are just these values."""
        with self.assertRaises(error) as caught:
            call(*given, **named)
        self.assertIs(caught.exception.__class__, error)
        for name, value in attributes.items():
            found = getattr(caught.exception, name)
            self.assertIs(found.__class__, value.__class__)
            if not isinstance(value, AlwaysEqual):
                self.assertTrue(found is value or found == value, (found, value))
