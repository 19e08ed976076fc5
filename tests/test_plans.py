"""Point [7] and plans.py."""

import unittest

from deedhouses.plans import choice_of, doubled, is_choice, is_minded, is_still, minded_of, still_of
from tests.helpers import (
    COIN, HALF, NIL, ONE, QUARTER, SHOP, TOSSED, TURNS, all_choices, are_chances_of_one, bent, draw_house, draw_minded,
    draw_still, plain, strange_values,
)


def is_still_too(house, value):
    if type(value) is not tuple or len(value) != len(house[2]):
        return False
    return all(are_chances_of_one(odds, len(stand)) for odds, stand in zip(value, house[2]))


def is_choice_too(house, value):
    if type(value) is not tuple or len(value) != len(house[2]):
        return False
    return all(type(deed) is int and deed in range(len(stand)) for deed, stand in zip(value, house[2]))


def is_minded_too(house, value):
    stands = house[2]
    if type(value) is not tuple or len(value) != 3:
        return False
    minds, odds, turns = value
    if type(minds) is not int or minds not in (1, 2, 3, 4):
        return False
    for part in (odds, turns):
        if type(part) is not tuple or len(part) != len(stands):
            return False
    for stand, rows, lists in zip(stands, odds, turns):
        if type(rows) is not tuple or len(rows) != minds:
            return False
        if not all(are_chances_of_one(each, len(stand)) for each in rows):
            return False
        if type(lists) is not tuple or len(lists) != len(stand):
            return False
        for each in lists:
            if type(each) is not tuple or len(each) != minds:
                return False
            if not all(type(mind) is int and mind in range(minds) for mind in each):
                return False
    return True


class PlansTest(unittest.TestCase):
    def test_examples(self):
        self.assertIs(is_still(SHOP, TOSSED), True)
        self.assertEqual(still_of(SHOP, (1, 0)), (((0, 1), (1, 1)), ((1, 1),)))
        self.assertIs(choice_of(SHOP, TOSSED), None)
        self.assertEqual(choice_of(SHOP, ((NIL, ONE), (ONE,))), (1, 0))
        self.assertEqual(doubled(SHOP, TOSSED), 1)
        self.assertEqual(minded_of(COIN, ((HALF, HALF),)), (1, ((((1, 2), (1, 2)),),), (((0,), (0,)),)))
        self.assertIs(is_minded(COIN, TURNS), True)

    def test_stills(self):
        for wrong in (
            ((HALF, HALF),), ((HALF, HALF), (ONE,), (ONE,)), ((HALF, QUARTER), (ONE,)), ((HALF, HALF), (ONE, NIL)),
            ([HALF, HALF], (ONE,)), [(HALF, HALF), (ONE,)], (((-1, 2), (3, 2)), (ONE,)), (((2, 4), HALF), (ONE,)),
            ((ONE, (0, 5)), (ONE,)), ((ONE, (False, 1)), (ONE,)), (((True, 1), NIL), (ONE,)), (None, (ONE,)), (0, 0),
        ):
            self.assertIs(is_still(SHOP, wrong), False, wrong)

    def test_choices(self):
        for right in ((0, 0), (1, 0)):
            self.assertIs(is_choice(SHOP, right), True)
        for wrong in (
            (2, 0), (0, 1), (-1, 0), (0,), (0, 0, 0), (), [0, 0], (False, 0), (True, 0), ("0", 0), (None, 0), (NIL, 0),
            "00", b"\0\0", (10 ** 300, 0),
        ):
            self.assertIs(is_choice(SHOP, wrong), False, wrong)

    def test_bent_plans(self):
        for seed in range(6):
            house = draw_house(seed, 2 + seed % 2, 3, 1)
            still = draw_still(seed, house)
            for value in [still, *bent(still)]:
                self.assertIs(is_still(house, value), is_still_too(house, value), value)
            choice = all_choices(house)[-1]
            for value in [choice, *bent(choice)]:
                self.assertIs(is_choice(house, value), is_choice_too(house, value), value)
            minded = draw_minded(seed, house, 1 + seed % 4)
            for value in [minded, *bent(minded)]:
                self.assertIs(is_minded(house, value), is_minded_too(house, value), value)

    def test_strange_values(self):
        for value in strange_values():
            self.assertIs(is_still(SHOP, value), False, value)
            self.assertIs(is_choice(SHOP, value), False, value)
            self.assertIs(is_minded(SHOP, value), False, value)

    def test_minds(self):
        house = draw_house(7, 3, 3, 2)
        for minds in range(1, 5):
            self.assertIs(is_minded(house, draw_minded(minds, house, minds)), True)
        self.assertIs(is_minded(house, draw_minded(5, house, 5)), False)
        self.assertIs(is_minded(house, (0, ((),) * 3, tuple(((),) * len(stand) for stand in house[2]))), False)
        minds, odds, turns = draw_minded(2, house, 1)
        self.assertIs(is_minded(house, (True, odds, turns)), False)
        self.assertIs(is_minded(house, (2, odds, turns)), False)
        self.assertIs(is_minded(COIN, (2, (((ONE, NIL), (NIL, ONE)),), (((1, 2), (1, 0)),))), False)
        self.assertIs(is_minded(COIN, (2, (((ONE, NIL), (NIL, ONE)),), (((1, 0),),))), False)
        self.assertIs(is_minded(COIN, (2, (((ONE, NIL),),), (((1, 0), (1, 0)),))), False)

    def test_there_and_back(self):
        for seed in range(10):
            house = draw_house(seed, 1 + seed % 5, 4, 1)
            for choice in all_choices(house)[:60]:
                still = still_of(house, choice)
                self.assertEqual(still, plain(house, choice))
                self.assertEqual(choice_of(house, still), choice)
                self.assertEqual(doubled(house, still), 0)
                self.assertTrue(is_minded_too(house, minded_of(house, still)))

    def test_doubled(self):
        for seed in range(40):
            house = draw_house(seed, 3, 4, 1)
            still = draw_still(seed, house)
            many = sum(each != NIL for odds in still for each in odds) - 3
            self.assertEqual(doubled(house, still), many)
            self.assertEqual(choice_of(house, still) is None, many > 0)

    def test_minded_of(self):
        for seed in range(20):
            house = draw_house(seed, 3, 3, 1)
            still = draw_still(seed, house)
            minds, odds, turns = minded_of(house, still)
            self.assertEqual(minds, 1)
            self.assertEqual(odds, tuple((each,) for each in still))
            self.assertEqual(turns, tuple(tuple((0,) for _ in stand) for stand in house[2]))


if __name__ == "__main__":
    unittest.main()
