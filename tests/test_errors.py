"""Point [4] and errors.py."""

import unittest

from deedhouses import errors
from deedhouses.errors import HouseError

GIVEN = (
    "InvalidNumber InvalidHouse InvalidMinded InvalidShares InvalidMix InvalidPair InvalidVague InvalidStretches"
    " InvalidFlag InvalidDim InvalidTree InvalidLookout InvalidRow InvalidNamed InvalidPlayer NotADesk TooMany"
).split()
INDEX = (
    "InvalidStart InvalidStill InvalidChoice InvalidWeights InvalidWorths InvalidBounds InvalidLog InvalidGoals"
    " InvalidHold InvalidRows InvalidOrder InvalidDice InvalidWay"
).split()
TEXT = "InvalidText TwiceNamed UnknownName NoSum".split()
NONE = "NotTwo NotBest Broken NothingToUndo".split()
PARTS = {
    **{name: ("given",) for name in GIVEN},
    **{name: ("index",) for name in INDEX},
    **{name: ("line", "place") for name in TEXT},
    "CannotKeep": ("weights", "worths"),
    **{name: () for name in NONE},
}
VALUES = [None, 0, True, "a b", (), (1, (2, [3])), [1], {"a": 1}, 10 ** 300, len]


class ErrorsTest(unittest.TestCase):
    def test_these_classes_are_there_and_no_others(self):
        told = [name for name, each in vars(errors).items() if isinstance(each, type)]
        self.assertEqual(sorted(told), sorted([*PARTS, "HouseError"]))

    def test_where_they_stand(self):
        self.assertEqual(HouseError.__mro__, (HouseError, *ValueError.__mro__))
        for name in PARTS:
            each = getattr(errors, name)
            self.assertEqual(each.__mro__, (each, *HouseError.__mro__), name)
            self.assertEqual(each.__module__, "deedhouses.errors")

    def test_they_keep_what_they_are_given(self):
        for name, parts in PARTS.items():
            make = getattr(errors, name)
            for first in VALUES:
                values = [first, ("other", first)][:len(parts)]
                by_position = make(*values)
                by_name = make(**dict(zip(parts, values)))
                mixed = make(*values[:1], **dict(list(zip(parts, values))[1:]))
                make(*["behind it"] * len(parts))
                for made in (by_position, by_name, mixed):
                    for part, value in zip(parts, values):
                        self.assertIs(getattr(made, part), value)

    def test_raised_and_caught(self):
        for name, parts in PARTS.items():
            make = getattr(errors, name)
            for base in (make, HouseError, ValueError):
                with self.assertRaises(base) as caught:
                    raise make(*["what"] * len(parts))
                self.assertEqual([getattr(caught.exception, part) for part in parts], ["what"] * len(parts))

    def test_without_attributes(self):
        self.assertIsInstance(HouseError(), ValueError)
        for name in NONE:
            self.assertIsInstance(getattr(errors, name)(), HouseError)

    def test_too_few_or_unknown_attributes(self):
        for name, parts in PARTS.items():
            if parts:
                with self.assertRaises(TypeError):
                    getattr(errors, name)()
                with self.assertRaises(TypeError):
                    getattr(errors, name)(unknown=1)


if __name__ == "__main__":
    unittest.main()
