"""Points [3], [5], [6] and houses.py."""

import unittest

from deedhouses.houses import is_house, is_start, weighted
from tests.helpers import (
    COIN, HALF, HUGE, NIL, ONE, QUARTER, SHOP, THREE, TWO, are_chances_of_one, bent, draw_house, draw_row, draw_start,
    is_chance, is_plain_fraction, number, row, strange_values,
)
import random


def is_house_too(value):
    """Point [6] once more, written down in another way."""
    if type(value) is not tuple or len(value) != 3:
        return False
    share, pays, stands = value
    if not is_chance(share) or number(share) >= 1 or type(pays) is not int or pays not in (1, 2, 3, 4):
        return False
    if type(stands) is not tuple or len(stands) not in range(1, 9):
        return False
    for stand in stands:
        if type(stand) is not tuple or len(stand) not in range(1, 5):
            return False
        for deed in stand:
            if type(deed) is not tuple or len(deed) != 2:
                return False
            chances, gains = deed
            if type(gains) is not tuple or len(gains) != pays or not all(is_plain_fraction(each) for each in gains):
                return False
            if type(chances) is not tuple or not all(type(each) is tuple and len(each) == 2 for each in chances):
                return False
            indexes = [each[0] for each in chances]
            if not all(type(each) is int and 0 <= each < len(stands) for each in indexes):
                return False
            if indexes != sorted(set(indexes)):
                return False
            if not are_chances_of_one(tuple(each[1] for each in chances), len(chances)):
                return False
            if any(each[1][0] == 0 for each in chances):
                return False
    return True


def with_chances(*chances):
    """A house of two stands, of which one deed has these CHANCES."""
    return HALF, 1, (((tuple(chances), (NIL,)),), ((((0, ONE),), (NIL,)),))


def with_sizes(stands, deeds, pays):
    deed = (((0, ONE),), (ONE,) * pays)
    return HALF, pays, ((deed,) * deeds,) * stands


class HousesTest(unittest.TestCase):
    def test_examples(self):
        self.assertIs(is_house(COIN), True)
        self.assertIs(is_house(SHOP), True)
        self.assertIs(is_house((ONE, 2, COIN[2])), False)
        self.assertIs(is_start(SHOP, (HALF, HALF)), True)
        self.assertIs(is_start(SHOP, (HALF, ONE)), False)
        told = ((1, 2), 1, (((((0, (1, 1)),), ((2, 1),)), (((0, (1, 1)),), ((6, 1),))),))
        self.assertEqual(weighted(COIN, (ONE, THREE)), told)

    def test_sizes(self):
        for stands in range(0, 11):
            for deeds in range(0, 6):
                for pays in range(0, 6):
                    right = 1 <= stands <= 8 and 1 <= deeds <= 4 and 1 <= pays <= 4
                    self.assertIs(is_house(with_sizes(stands, deeds, pays)), right, (stands, deeds, pays))
        for pays in (True, None, "2", (2,), -1, 10 ** 300):
            self.assertIs(is_house((HALF, pays, COIN[2])), False)
        self.assertIs(is_house((HALF, True, with_sizes(1, 1, 1)[2])), False)

    def test_shares(self):
        for share in (NIL, HALF, (10 ** 300 - 1, 10 ** 300)):
            self.assertIs(is_house((share, 2, COIN[2])), True)
        for share in (ONE, TWO, (-1, 2), (0, 2), (2, 4), (1, 0), (-1, -2), (0, -1), 0, None, (False, 1), [1, 2], "ab"):
            self.assertIs(is_house((share, 2, COIN[2])), False, share)

    def test_chances(self):
        for right in (((0, ONE),), ((1, ONE),), ((0, HALF), (1, HALF)), ((0, (1, 10 ** 300)), (1, (10 ** 300 - 1, 10 ** 300)))):
            self.assertIs(is_house(with_chances(*right)), True, right)
        for wrong in (
            (), ((0, HALF),), ((0, HALF), (1, ONE)), ((0, ONE), (1, NIL)), ((0, TWO), (1, (-1, 1))),
            ((0, HALF), (0, HALF)), ((1, HALF), (0, HALF)), ((2, ONE),), ((-1, ONE),), ((False, ONE),), ((0, (True, 1)),),
            ((0, HALF), (True, HALF)), ((0, (2, 4)), (1, HALF)), ([0, ONE],), ((0, ONE, None),), ((0,),), (None,), ("ab",),
            ((None, ONE),), ((0, None),), ((0, (1, 0)),), ((0, (0, 0)),), ((0, (-1, -1)),), ((10 ** 300, ONE),),
        ):
            self.assertIs(is_house(with_chances(*wrong)), False, wrong)
        self.assertIs(is_house((HALF, 1, ((([(0, ONE)], (NIL,)),),))), False)

    def test_gains(self):
        for gains in ((NIL,), ((-5, 3),), (HUGE,), ((-(10 ** 399), 7),)):
            self.assertIs(is_house((HALF, 1, (((((0, ONE),), gains),),))), True, gains)
        for gains in ((), (NIL, NIL), ((0, 2),), ((4, 2),), (0,), (None,), [NIL], ((1, True),), ((False, 1),), ((1, -1),)):
            self.assertIs(is_house((HALF, 1, (((((0, ONE),), gains),),))), False, gains)

    def test_strange_values(self):
        for value in strange_values():
            self.assertIs(is_house(value), False)
            self.assertIs(is_start(SHOP, value), False)

    def test_bent_houses(self):
        for house in (COIN, SHOP, draw_house(5, 3, 2, 3), with_sizes(1, 1, 1)):
            told = 0
            for value in bent(house):
                self.assertIs(is_house(value), is_house_too(value), value)
                told += not is_house(value)
            self.assertGreater(told, 100)

    def test_drawn_houses(self):
        for seed in range(60):
            house = draw_house(seed, 1 + seed % 8, 4, 1 + seed % 4)
            self.assertIs(is_house(house), True)
            self.assertIs(is_house(list(house)), False)

    def test_starts(self):
        house = draw_house(1, 3, 2, 1)
        for right in ((ONE, NIL, NIL), (NIL, NIL, ONE), (HALF, QUARTER, QUARTER)):
            self.assertIs(is_start(house, right), True)
        for wrong in (
            (ONE, NIL), (ONE, NIL, NIL, NIL), (HALF, HALF, HALF), (TWO, (-1, 1), NIL), (NIL, NIL, NIL), [ONE, NIL, NIL],
            (ONE, NIL, (0, 2)), (ONE, NIL, (False, 1)), ((True, 1), NIL, NIL), (ONE, NIL, 0), (ONE, NIL, None), (1, 0, 0),
        ):
            self.assertIs(is_start(house, wrong), False, wrong)
        for value in bent(draw_start(3, house)):
            self.assertIs(is_start(house, value), are_chances_of_one(value, 3), value)

    def test_weighted(self):
        for seed in range(20):
            house = draw_house(seed, 3, 3, 1 + seed % 4)
            weights = draw_row(random.Random(seed), house[1])
            made = weighted(house, weights)
            self.assertTrue(is_house_too(made))
            self.assertEqual((made[0], made[1]), (house[0], 1))
            for stand, other in zip(house[2], made[2]):
                self.assertEqual([deed[0] for deed in stand], [deed[0] for deed in other])
                for deed, changed in zip(stand, other):
                    told = sum(one * two for one, two in zip(row(weights), row(deed[1])))
                    self.assertEqual(row(changed[1]), [told])


if __name__ == "__main__":
    unittest.main()
