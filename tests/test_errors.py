"""The classes of errors, their bases and attributes."""

import unittest

from frontlines import errors

LISTED = {
    "LineError": (
        ValueError,
        {
            "InvalidSigns": ["value"], "InvalidRows": ["position"], "InvalidEnds": ["position"],
            "InvalidLine": ["value"], "InvalidLines": ["position"], "InvalidCount": ["value"],
            "InvalidRules": ["position"], "InvalidRelays": ["position"], "InvalidChain": ["position"],
            "InvalidMark": ["value"], "InvalidMarks": ["position"], "InvalidSight": ["value"],
            "InvalidLook": ["value"], "InvalidBody": ["position"], "InvalidTail": ["value"],
            "InvalidCare": ["name", "value"], "InvalidRole": ["value"], "InvalidLevel": ["value"],
            "InvalidTree": ["value"], "InvalidMessage": ["position"], "InvalidWidth": ["value"],
            "InvalidText": ["line"], "InvalidClaim": ["value"], "InvalidCommand": ["value"],
        },
    ),
    "StateError": (
        RuntimeError,
        {
            "OtherSigns": ["one", "other"], "OtherReaders": ["one", "other"], "Untrue": [], "NothingToUndo": [],
            "CommandFailed": ["position"],
        },
    ),
    "LimitError": (ArithmeticError, {"TooMany": ["what", "limit"]}),
}


class Unshowable:
    def __repr__(self):
        raise RuntimeError("not to be shown")

    __str__ = __repr__

    def __eq__(self, other):
        raise RuntimeError("not to be compared")

    __hash__ = None


class Errors(unittest.TestCase):
    def test_bases(self):
        for above, (python, below) in LISTED.items():
            base = getattr(errors, above)
            self.assertEqual(base.__bases__, (python,))
            for name in below:
                self.assertEqual(getattr(errors, name).__bases__, (base,), name)

    def test_all_are_listed(self):
        found = {name for name, value in vars(errors).items() if isinstance(value, type)}
        listed = set(LISTED)
        for _, below in LISTED.values():
            listed |= set(below)
        self.assertEqual(found, listed)

    def test_attributes_by_position_and_by_name(self):
        values = [None, 0, True, "x", b"x", [1, [2]], (), {"a": 1}, {1, 2}, object(), Unshowable(), ValueError]
        for _, below in LISTED.values():
            for name, names in below.items():
                kind = getattr(errors, name)
                for value in values:
                    given = [value] * len(names)
                    for made in (kind(*given), kind(**dict(zip(names, given)))):
                        for attribute in names:
                            self.assertIs(getattr(made, attribute), value)

    def test_attributes_are_in_sequence(self):
        for _, below in LISTED.values():
            for name, names in below.items():
                made = getattr(errors, name)(*range(len(names)))
                self.assertEqual([getattr(made, attribute) for attribute in names], list(range(len(names))))

    def test_wrong_number_of_values(self):
        for _, below in LISTED.values():
            for name, names in below.items():
                if names:
                    with self.assertRaises(TypeError):
                        getattr(errors, name)()
                    with self.assertRaises(TypeError):
                        getattr(errors, name)(*range(len(names) + 1))

    def test_caught_by_their_bases(self):
        with self.assertRaises(ValueError):
            raise errors.InvalidCare("sight", 1)
        with self.assertRaises(errors.LineError):
            raise errors.InvalidSigns(value="x")
        with self.assertRaises(RuntimeError):
            raise errors.Untrue()
        with self.assertRaises(ArithmeticError):
            raise errors.TooMany("states", 300)
