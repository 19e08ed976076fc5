"""Point [9] and shares.py."""

import unittest
from fractions import Fraction

from deedhouses.plans import is_still, minded_of, still_of
from deedhouses.shares import are_shares, minded_shares, pays_of_shares, shares_of, still_of_shares
from deedhouses.worths import minded_pays, pays_of
from tests.helpers import (
    COIN, HALF, NIL, ONE, SHOP, TURNS, bent, draw_house, draw_minded, draw_start, draw_still, is_chance, number, pair, row,
    strange_values,
)

SILENT = (HALF, 1, (
    ((((0, ONE),), (ONE,)), (((1, ONE),), (NIL,))),
    ((((0, ONE),), (NIL,)), (((1, ONE),), ((5, 1),))),
    ((((0, HALF), (2, HALF)), (ONE,)), (((1, ONE),), (ONE,))),
))


def are_shares_too(house, start, value):
    """The balance of [9] once more."""
    stands = house[2]
    if type(value) is not tuple or len(value) != len(stands):
        return False
    for told, stand in zip(value, stands):
        if type(told) is not tuple or len(told) != len(stand) or not all(is_chance(each) for each in told):
            return False
    for at in range(len(stands)):
        wanted = number(start[at])
        for told, stand in zip(value, stands):
            for each, (chances, _) in zip(told, stand):
                wanted += number(house[0]) * number(each) * number(dict(chances).get(at, NIL))
        if sum(row(value[at])) != wanted:
            return False
    return True


def mean_shares(chance, one, two):
    part = number(chance)
    return tuple(
        tuple(pair(part * number(left) + (1 - part) * number(right)) for left, right in zip(first, second))
        for first, second in zip(one, two)
    )


class SharesTest(unittest.TestCase):
    def test_examples(self):
        self.assertEqual(shares_of(COIN, (ONE,), ((HALF, HALF),)), (((1, 1), (1, 1)),))
        self.assertEqual(minded_shares(COIN, (ONE,), TURNS), (((4, 3), (2, 3)),))
        self.assertEqual(still_of_shares(COIN, (ONE,), minded_shares(COIN, (ONE,), TURNS)), (((2, 3), (1, 3)),))
        told = shares_of(SHOP, (ONE, NIL), still_of(SHOP, (0, 0)))
        self.assertEqual(told, (((8, 5), (0, 1)), ((2, 5),)))
        self.assertEqual(pays_of_shares(SHOP, (ONE, NIL), told), ((16, 5), (0, 1)))

    def test_shares_of_plans(self):
        for seed in range(60):
            house = draw_house(seed, 1 + seed % 6, 4, 1 + seed % 4)
            start, still = draw_start(seed, house), draw_still(seed, house)
            told = shares_of(house, start, still)
            self.assertTrue(are_shares_too(house, start, told))
            self.assertIs(are_shares(house, start, told), True)
            self.assertEqual(pays_of_shares(house, start, told), pays_of(house, start, still))
            self.assertEqual(sum(sum(row(each)) for each in told), 1 / (1 - number(house[0])))
            back = still_of_shares(house, start, told)
            self.assertIs(is_still(house, back), True)
            self.assertEqual(shares_of(house, start, back), told)
            for odds, kept, each in zip(still, back, told):
                if sum(row(each)) == 0:
                    self.assertEqual(kept, (ONE,) + (NIL,) * (len(each) - 1))
                else:
                    self.assertEqual(kept, odds)

    def test_mean_of_two_plans(self):
        for seed in range(40):
            house = draw_house(seed, 1 + seed % 4, 3, 2)
            start = draw_start(seed, house)
            one, two = draw_still(seed, house), draw_still(seed + 1000, house)
            told = mean_shares((1, 3), shares_of(house, start, one), shares_of(house, start, two))
            self.assertIs(are_shares(house, start, told), True)
            back = still_of_shares(house, start, told)
            self.assertEqual(shares_of(house, start, back), told)
            pays = [Fraction(1, 3) * a + Fraction(2, 3) * b for a, b in
                    zip(row(pays_of(house, start, one)), row(pays_of(house, start, two)))]
            self.assertEqual(row(pays_of(house, start, back)), pays)
            self.assertEqual(row(pays_of_shares(house, start, told)), pays)

    def test_stands_that_are_not_reached(self):
        still = ((ONE, NIL), (NIL, ONE), (HALF, HALF))
        told = shares_of(SILENT, (ONE, NIL, NIL), still)
        self.assertEqual(told, ((TWO_SHARES, NIL), (NIL, NIL), (NIL, NIL)))
        self.assertEqual(still_of_shares(SILENT, (ONE, NIL, NIL), told), ((ONE, NIL), (ONE, NIL), (ONE, NIL)))

    def test_share_of_nought(self):
        house = (NIL, *SILENT[1:])
        start = (HALF, NIL, HALF)
        still = ((HALF, HALF), (HALF, HALF), (NIL, ONE))
        self.assertEqual(shares_of(house, start, still), (((1, 4), (1, 4)), (NIL, NIL), (NIL, HALF)))

    def test_minded_shares(self):
        for seed in range(40):
            house = draw_house(seed, 1 + seed % 4, 3, 2)
            start, minded = draw_start(seed, house), draw_minded(seed, house, 1 + seed % 4)
            told = minded_shares(house, start, minded)
            self.assertTrue(are_shares_too(house, start, told))
            self.assertEqual(pays_of_shares(house, start, told), minded_pays(house, start, minded))
            still = still_of_shares(house, start, told)
            self.assertEqual(pays_of(house, start, still), minded_pays(house, start, minded))

    def test_one_mind(self):
        for seed in range(10):
            house = draw_house(seed, 3, 3, 2)
            start, still = draw_start(seed, house), draw_still(seed, house)
            self.assertEqual(minded_shares(house, start, minded_of(house, still)), shares_of(house, start, still))

    def test_what_are_none(self):
        for value in strange_values():
            self.assertIs(are_shares(SHOP, (ONE, NIL), value), False)
        right = shares_of(SHOP, (ONE, NIL), still_of(SHOP, (0, 0)))
        self.assertIs(are_shares(SHOP, (NIL, ONE), right), False)
        self.assertIs(are_shares(SHOP, (ONE, NIL), (((8, 5), (0, 2)), ((2, 5),))), False)
        self.assertIs(are_shares(SHOP, (ONE, NIL), (((8, 5), (False, 1)), ((2, 5),))), False)
        self.assertIs(are_shares(COIN, (ONE,), (((3, 1), (-1, 1)),)), False)
        self.assertIs(are_shares(COIN, (ONE,), (((3, 2), HALF),)), True)

    def test_bent_shares(self):
        for seed in range(12):
            house = draw_house(seed, 1 + seed % 3, 3, 1)
            start, still = draw_start(seed, house), draw_still(seed, house)
            told = shares_of(house, start, still)
            for value in [told, *bent(told)]:
                self.assertIs(are_shares(house, start, value), are_shares_too(house, start, value), value)


TWO_SHARES = (2, 1)

if __name__ == "__main__":
    unittest.main()
