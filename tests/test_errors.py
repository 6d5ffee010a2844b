"""The refusals: their fields in the order told, and the class that each stands straight under."""

import unittest

from mostclauses import errors

TOLD = (
    ("NoMarks", ValueError, ()),
    ("NoPlan", ValueError, ()),
    ("NoText", ValueError, ()),
    ("NoKnot", ValueError, ("number",)),
    ("NoFresh", ValueError, ("lowest",)),
    ("NoBound", ValueError, ("low", "high")),
    ("NoGrow", ValueError, ()),
    ("NotWider", ValueError, ("cap",)),
    ("TooFar", ValueError, ("cap",)),
    ("IsPut", KeyError, ("name",)),
    ("NotOn", KeyError, ("mark",)),
    ("IsRule", KeyError, ("word",)),
    ("NoRule", KeyError, ("word",)),
    ("TooMany", IndexError, ("many",)),
    ("NoPut", IndexError, ()),
    ("NoDeed", IndexError, ()),
    ("IsBroken", LookupError, ()),
    ("HasSome", LookupError, ()),
)


def worths_for(fields):
    """Some worths of the fields, in their order."""
    if fields == ():
        return [()]
    if fields == ("word",):
        return [("cups",), ("a",)]
    if fields == ("mark",):
        return [(5,), (-5,), (10 ** 12,), (None,)]
    if fields == ("low", "high"):
        return [(3, 7), (7, 3), (0, 60)]
    return [(0,), (1,), (3004,), (10 ** 59,)]


class TestErrors(unittest.TestCase):

    def test_these_are_all(self):
        there = [name for name, thing in vars(errors).items() if isinstance(thing, type)]
        self.assertEqual(sorted(there), sorted(name for name, _, _ in TOLD))

    def test_straight_under(self):
        for name, above, _ in TOLD:
            with self.subTest(name=name):
                self.assertEqual(getattr(errors, name).__bases__, (above,))

    def test_named_as_told(self):
        for name, _, _ in TOLD:
            with self.subTest(name=name):
                self.assertEqual(getattr(errors, name).__name__, name)
                self.assertEqual(getattr(errors, name).__module__, "mostclauses.errors")

    def test_fields_in_order(self):
        for name, _, fields in TOLD:
            for worths in worths_for(fields):
                with self.subTest(name=name, worths=worths):
                    refusal = getattr(errors, name)(*worths)
                    self.assertEqual(tuple(getattr(refusal, field) for field in fields), worths)

    def test_fields_alone(self):
        for name, _, fields in TOLD:
            with self.subTest(name=name):
                refusal = getattr(errors, name)(*range(len(fields)))
                self.assertEqual(sorted(vars(refusal)), sorted(fields))

    def test_no_more_and_no_less(self):
        for name, _, fields in TOLD:
            refusal = getattr(errors, name)
            with self.subTest(name=name, made="of one more"):
                with self.assertRaises(TypeError):
                    refusal(*range(len(fields) + 1))
            if fields:
                with self.subTest(name=name, made="of one less"):
                    with self.assertRaises(TypeError):
                        refusal(*range(len(fields) - 1))

    def test_raised_and_caught(self):
        for name, above, fields in TOLD:
            with self.subTest(name=name):
                made = getattr(errors, name)(*range(len(fields)))
                with self.assertRaises(above) as caught:
                    raise made
                self.assertIs(caught.exception, made)

    def test_says_something(self):
        for name, _, fields in TOLD:
            with self.subTest(name=name):
                self.assertNotEqual(str(getattr(errors, name)(*range(len(fields)))), "")


if __name__ == "__main__":
    unittest.main()
