"""Point [13] and mixes.py."""

import unittest
from fractions import Fraction

from deedhouses.mixes import is_mix, mix_of, mix_pays
from tests.helpers import (
    COIN, HALF, NIL, ONE, QUARTER, SHOP, TOSSED, all_choices, are_chances_of_one, bent, draw_house, draw_start, draw_still,
    is_plain_fraction, number, plain, plain_pays, row, strange_values,
)

THIRD = (1, 3)


def is_mix_too(house, value):
    if type(value) is not tuple or not all(type(part) is tuple and len(part) == 2 for part in value):
        return False
    if not are_chances_of_one(tuple(part[0] for part in value), len(value)) or any(part[0][0] == 0 for part in value):
        return False
    for _, choice in value:
        if type(choice) is not tuple or not all(type(deed) is int for deed in choice):
            return False
        if choice not in all_choices(house):
            return False
    choices = [part[1] for part in value]
    return choices == sorted(set(choices))


class MixesTest(unittest.TestCase):
    def test_examples(self):
        self.assertIs(is_mix(COIN, ((HALF, (0,)), (HALF, (1,)))), True)
        self.assertIs(is_mix(COIN, ((HALF, (0,)),)), False)
        self.assertEqual(mix_pays(COIN, (ONE,), ((QUARTER, (0,)), ((3, 4), (1,)))), ((1, 1), (3, 1)))
        self.assertEqual(mix_of(COIN, (ONE,), ((QUARTER, (3, 4)),)), (((1, 4), (0,)), ((3, 4), (1,))))

    def test_what_is_none(self):
        for wrong in (
            (), ((HALF, (1,)), (HALF, (0,))), ((HALF, (0,)), (HALF, (0,))), ((NIL, (0,)), (ONE, (1,))),
            ((ONE, (0,)), (NIL, (1,))), ((HALF, (0,)), (THIRD, (1,))), (((3, 2), (0,)), ((-1, 2), (1,))), ((ONE, (2,)),),
            ((ONE, (-1,)),), ((ONE, (True,)),), ((ONE, 0),), ((ONE, (0, 0)),), ((ONE, ()),), ((ONE,),), (ONE, (0,)),
            ((ONE, (0,), None),), [(ONE, (0,))], ([ONE, (0,)],), ((ONE, [0]),), (((True, 1), (0,)),), (((2, 2), (0,)),),
            ((HALF, (False,)), (HALF, (True,))), ((ONE, ("0",)),), (((2, 4), (0,)), (HALF, (1,))), ((HALF, (0,)), None),
        ):
            self.assertIs(is_mix(COIN, wrong), False, wrong)
        self.assertIs(is_mix(COIN, ((ONE, (1,)),)), True)

    def test_whatever_it_is(self):
        for value in strange_values():
            self.assertIs(is_mix(SHOP, value), False)
        for seed in range(8):
            house = draw_house(seed, 1 + seed % 3, 3, 1)
            told = mix_of(house, draw_start(seed, house), draw_still(seed, house))
            for value in [told, *bent(told)]:
                self.assertIs(is_mix(house, value), is_mix_too(house, value), value)

    def test_pays_are_the_mean(self):
        for seed in range(20):
            house = draw_house(seed, 1 + seed % 3, 3, 1 + seed % 4)
            start, choices = draw_start(seed, house), all_choices(house)[:5]
            chances = [Fraction(at + 1, sum(range(len(choices) + 1))) for at in range(len(choices))]
            mix = tuple(((each.numerator, each.denominator), choice) for each, choice in zip(chances, choices))
            points = [plain_pays(house, start, plain(house, choice)) for choice in choices]
            mean = [sum(part * point[pay] for part, point in zip(chances, points)) for pay in range(house[1])]
            self.assertEqual(row(mix_pays(house, start, mix)), mean)

    def asked(self, house, start, still):
        mix = mix_of(house, start, still)
        self.assertTrue(is_mix_too(house, mix) if len(all_choices(house)) < 5000 else is_mix(house, mix))
        self.assertLessEqual(len(mix), house[1] + 1)
        points = [plain_pays(house, start, plain(house, choice)) for _, choice in mix]
        mean = [sum(number(part) * point[pay] for (part, _), point in zip(mix, points)) for pay in range(house[1])]
        self.assertEqual(mean, plain_pays(house, start, still))
        told = mix_pays(house, start, mix)
        self.assertEqual(row(told), mean)
        self.assertTrue(all(is_plain_fraction(each) for each in told))
        return mix

    def test_mixes_of_still_plans(self):
        for seed in range(100):
            house = draw_house(seed, 1 + seed % 5, 4, 1 + seed % 4, alike=seed % 2 == 0)
            self.asked(house, draw_start(seed, house), draw_still(seed, house))

    def test_mixes_of_plain_plans(self):
        for seed in range(20):
            house = draw_house(seed, 3, 3, 2)
            start = draw_start(seed, house)
            for choice in all_choices(house):
                self.assertEqual(len(self.asked(house, start, plain(house, choice))), 1)

    def test_large_houses(self):
        for seed in range(5):
            house = draw_house(seed, 8, 4, 4, share=(9, 10))
            still = tuple(((1, len(stand)),) * len(stand) for stand in house[2])
            self.asked(house, draw_start(seed, house), still)

    def test_shares_of_nought_and_stands_not_reached(self):
        house = draw_house(3, 4, 4, 3, share=NIL)
        self.asked(house, (ONE, NIL, NIL, NIL), draw_still(5, house))
        self.asked(SHOP, (NIL, ONE), TOSSED)


if __name__ == "__main__":
    unittest.main()
