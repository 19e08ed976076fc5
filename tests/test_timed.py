"""Point [19] and timed.py."""

import random
import unittest
from fractions import Fraction

from deedhouses.best import best
from deedhouses.errors import InvalidNumber
from deedhouses.plans import is_choice
from deedhouses.timed import timed_choices, timed_worths
from tests.helpers import (
    HALF, HUGE, NIL, ONE, SHOP, draw_house, draw_row, is_plain_fraction, number, row,
)


def recursion(house, weights, many):
    """The worths with 0 up to so many steps left, and the first deeds with the greatest, as they are told."""
    lines, choices = [[Fraction(0)] * len(house[2])], []
    for _ in range(many):
        behind = lines[-1]
        sums = []
        for stand in house[2]:
            sums.append([
                sum(number(weight) * number(gain) for weight, gain in zip(weights, gains))
                + number(house[0]) * sum(number(chance) * behind[to] for to, chance in chances)
                for chances, gains in stand
            ])
        lines.append([max(each) for each in sums])
        choices.append(tuple(each.index(max(each)) for each in sums))
    return lines, choices


class TimedTest(unittest.TestCase):
    def test_examples(self):
        self.assertEqual(
            timed_worths(SHOP, (ONE, NIL), 2), (((0, 1), (0, 1)), ((2, 1), (0, 1)), ((5, 2), (1, 1)))
        )
        self.assertEqual(timed_choices(SHOP, (ONE, ONE), 2), ((0, 0), (1, 0)))

    def test_beside_the_recursion(self):
        for seed in range(40):
            source = random.Random(seed)
            house = draw_house(seed, 1 + seed % 4, 4, 1 + seed % 4, alike=seed % 2 == 0)
            weights = draw_row(source, house[1], -3, 3)
            many = (0, 1, 2, 3, 7, 12)[seed % 6]
            told = timed_worths(house, weights, many)
            choices = timed_choices(house, weights, many)
            lines, first = recursion(house, weights, many)
            self.assertIs(type(told), tuple)
            self.assertEqual((len(told), len(choices)), (many + 1, many))
            self.assertTrue(all(type(line) is tuple and all(is_plain_fraction(each) for each in line) for line in told))
            self.assertEqual([row(line) for line in told], lines)
            self.assertEqual(list(choices), first)
            self.assertTrue(all(is_choice(house, choice) for choice in choices))

    def test_up_to_30_steps(self):
        for seed in range(4):
            house = draw_house(seed, 3, 3, 2, share=(HALF, (4, 5), NIL, (9, 10))[seed])
            weights = draw_row(random.Random(seed), 2, -3, 3)
            lines, first = recursion(house, weights, 30)
            for many in (29, 30):
                self.assertEqual([row(line) for line in timed_worths(house, weights, many)], lines[:many + 1])
                self.assertEqual(list(timed_choices(house, weights, many)), first[:many])

    def test_the_first_deed_of_like_ones(self):
        stay, other = (((0, ONE),), (ONE,)), (((0, ONE),), ((2, 2 - 1),))
        for stand, told in (((stay, stay), 0), ((stay, other, other), 1), ((other, stay, other), 0), ((stay, stay, other), 2)):
            self.assertEqual(timed_choices((HALF, 1, (stand,)), (ONE,), 3), ((told,),) * 3)
            self.assertEqual(timed_choices((HALF, 1, (stand,)), (NIL,), 3), ((0,),) * 3)
        # Weights below 0 turn the order round.
        self.assertEqual(timed_choices((HALF, 1, ((other, stay, stay),)), ((-1, 1),), 2), ((1,), (1,)))

    def test_how_far_from_the_best(self):
        for seed in range(24):
            house = draw_house(seed, 3, 3, 2)
            weights = draw_row(random.Random(seed), 2, -3, 3)
            best_worths = row(best(house, weights)[0])
            greatest = max(abs(each) for each in best_worths)
            power = Fraction(1)
            for line in timed_worths(house, weights, 20):
                for left, right in zip(row(line), best_worths):
                    self.assertLessEqual(abs(left - right), power * greatest)
                power *= number(house[0])

    def test_none_left(self):
        self.assertEqual(timed_worths(SHOP, (ONE, ONE), 0), ((NIL, NIL),))
        self.assertEqual(timed_choices(SHOP, (ONE, ONE), 0), ())

    def test_many(self):
        for call in (timed_worths, timed_choices):
            for wrong in (-1, 31, True, None, "3", (3, 1), 10 ** 399, -10 ** 399):
                with self.assertRaises(InvalidNumber) as caught:
                    call(SHOP, (ONE, ONE), wrong)
                self.assertIs(caught.exception.given, wrong)

    def test_numbers_of_some_hundred_figures(self):
        house = (HALF, 1, (((((0, ONE),), (HUGE,)), (((0, ONE),), ((-HUGE[0], HUGE[1]),))),))
        told = timed_worths(house, ((-1, 1),), 3)
        self.assertEqual([line[0] for line in row_lines(told)], [0, number(HUGE), number(HUGE) * 3 / 2, number(HUGE) * 7 / 4])
        self.assertEqual(timed_choices(house, ((-1, 1),), 3), ((1,),) * 3)


def row_lines(told):
    return [row(line) for line in told]


if __name__ == "__main__":
    unittest.main()
