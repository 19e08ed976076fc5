"""Point [10] and best.py."""

import random
import unittest
from fractions import Fraction

from deedhouses.best import best, gaps_of, turn
from deedhouses.plans import is_choice
from tests.helpers import (
    HALF, HUGE, NIL, ONE, SHOP, TWO, all_choices, all_gaps, draw_house, draw_row, is_plain_fraction, number, plain,
    plain_worths, row,
)


def weighted_worths(house, weights, choice):
    worths = [plain_worths(house, plain(house, choice), pay) for pay in range(house[1])]
    return [sum(weight * each[at] for weight, each in zip(weights, worths)) for at in range(len(house[2]))]


def turned(house, weights, choice):
    """One turn of improving, told once more."""
    worths = weighted_worths(house, weights, choice)
    gaps = iter(all_gaps(house, weights, worths))
    made = []
    for deed, stand in zip(choice, house[2]):
        own = [next(gaps) for _ in stand]
        made.append(own.index(min(own)) if min(own) < 0 else deed)
    return tuple(made)


class BestTest(unittest.TestCase):
    def test_examples(self):
        self.assertEqual(turn(SHOP, (ONE, NIL), (1, 0)), (0, 0))
        self.assertEqual(best(SHOP, (ONE, NIL)), (((16, 5), (8, 5)), (0, 0)))
        self.assertEqual(best(SHOP, (ONE, ONE))[0], ((4, 1), (2, 1)))
        self.assertEqual(gaps_of(SHOP, (ONE, ONE), (TWO, ONE)), (((-3, 4), (-1, 1)), ((0, 1),)))

    def test_gaps(self):
        for seed in range(60):
            source = random.Random(seed)
            house = draw_house(seed, 1 + seed % 8, 4, 1 + seed % 4)
            weights, worths = draw_row(source, house[1]), draw_row(source, len(house[2]))
            told = gaps_of(house, weights, worths)
            self.assertEqual([len(each) for each in told], [len(stand) for stand in house[2]])
            self.assertEqual([number(each) for own in told for each in own], all_gaps(house, row(weights), row(worths)))
            self.assertTrue(all(is_plain_fraction(each) for own in told for each in own))

    def test_turns(self):
        for seed in range(60):
            source = random.Random(seed)
            house = draw_house(seed, 1 + seed % 3, 4, 1 + seed % 3, alike=True)
            weights = draw_row(source, house[1])
            for choice in all_choices(house):
                told = turn(house, weights, choice)
                self.assertEqual(told, turned(house, row(weights), choice))
                before, behind = (weighted_worths(house, row(weights), each) for each in (choice, told))
                self.assertTrue(all(one <= two for one, two in zip(before, behind)))
                self.assertEqual(before == behind, told == choice)

    def test_turns_come_to_an_end(self):
        for seed in range(20):
            house = draw_house(seed, 3, 4, 2, alike=True)
            weights = draw_row(random.Random(seed), 2)
            worths, _ = best(house, weights)
            for choice in all_choices(house):
                seen = [choice]
                while turn(house, weights, seen[-1]) != seen[-1]:
                    seen.append(turn(house, weights, seen[-1]))
                    self.assertEqual(len(seen), len(set(seen)))
                self.assertEqual(weighted_worths(house, row(weights), seen[-1]), row(worths))

    def test_like_deeds(self):
        deed, better = (((0, ONE),), (NIL,)), (((0, ONE),), (ONE,))
        self.assertEqual(turn((HALF, 1, ((deed, better, deed, better),)), (ONE,), (0,)), (1,))
        self.assertEqual(turn((HALF, 1, ((deed, better, deed, better),)), (ONE,), (2,)), (1,))
        self.assertEqual(turn((HALF, 1, ((deed, better, deed, better),)), (ONE,), (3,)), (3,))
        self.assertEqual(turn((HALF, 1, ((deed, better, deed, better),)), ((-1, 1),), (3,)), (0,))
        self.assertEqual(turn((HALF, 1, ((deed, better, deed, better),)), (NIL,), (3,)), (3,))

    def test_best_beside_all_choices(self):
        for seed in range(80):
            source = random.Random(seed)
            house = draw_house(seed, 1 + seed % 4, 4, 1 + seed % 4, alike=seed % 2 == 0)
            weights = (NIL,) * house[1] if seed % 9 == 0 else draw_row(source, house[1])
            worths, choice = best(house, weights)
            self.assertTrue(is_choice(house, choice))
            lists = [weighted_worths(house, row(weights), each) for each in all_choices(house)]
            self.assertEqual(row(worths), [max(each) for each in zip(*lists)])
            self.assertEqual(row(worths), weighted_worths(house, row(weights), choice))
            self.assertTrue(all(each >= 0 for each in all_gaps(house, row(weights), row(worths))))
            self.assertTrue(all(is_plain_fraction(each) for each in worths))

    def test_large_house(self):
        house = draw_house(2, 8, 4, 4, share=(99, 100))
        for signs in ((1, 1, 1, 1), (-1, 2, -3, 4)):
            weights = tuple((sign, 1) for sign in signs)
            worths, choice = best(house, weights)
            self.assertTrue(all(each >= 0 for each in all_gaps(house, row(weights), row(worths))))
            self.assertEqual(row(worths), weighted_worths(house, row(weights), choice))

    def test_numbers_of_some_hundred_figures(self):
        house = (HALF, 1, (((((0, ONE),), (HUGE,)), (((0, ONE),), ((HUGE[0] + HUGE[1], HUGE[1]),))),))
        worths, choice = best(house, (HUGE,))
        self.assertEqual(choice, (1,))
        self.assertEqual(number(worths[0]), 2 * number(HUGE) * Fraction(HUGE[0] + HUGE[1], HUGE[1]))


if __name__ == "__main__":
    unittest.main()
