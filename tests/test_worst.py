"""Points [22] to [25] and worst.py."""

import random
import unittest
from fractions import Fraction
from itertools import product

from deedhouses.errors import InvalidBounds, InvalidStart, InvalidStill, InvalidVague, InvalidWeights
from deedhouses.plans import is_choice
from deedhouses.stretches import filled, fits, vague_of
from deedhouses.worst import best_house, best_worths, not_kept, safest, surely_keeps, worst_house, worst_worths
from tests.helpers import (
    HALF, HUGE, NIL, ONE, QUARTER, SHOP, TOSSED, TWO, all_choices, corner_houses_of, draw_fitting, draw_odds, draw_row,
    draw_start, draw_still, draw_vague, end_rows, is_plain_fraction, number, pair, plain, plain_pays, row, weighted_worths,
)

FIRST, SECOND = ((ONE, NIL), (ONE,)), ((NIL, ONE), (ONE,))
WIDE = (((0, (1, 4), (3, 4)), (1, (1, 4), (3, 4))), (ONE,))
VAGUE = (HALF, 1, ((WIDE, (((1, ONE, ONE),), (NIL,))), ((((1, ONE, ONE),), (TWO,)),)))
LITTLE = Fraction(1, 10 ** 9)


def least_sum(ways, worths, side):
    """The least sum, or the greatest one, over all corner rows."""
    sums = [sum(own * worths[at] for own, (at, _, _) in zip(ends, ways)) for ends in end_rows(ways)]
    return min(sums) if side < 0 else max(sums)


def brought(vague, weights, worths, deed, side=-1):
    """A deed's gain and the share of its least sum, or of its greatest one."""
    gain = sum(number(weight) * number(each) for weight, each in zip(weights, deed[1]))
    return gain + number(vague[0]) * least_sum(deed[0], worths, side)


def down(vague, weights, still, worths, side=-1):
    """DOWN(U) of [22]; with a side of 1 the other way."""
    return [
        sum(number(odd) * brought(vague, weights, worths, deed, side) for odd, deed in zip(odds, stand))
        for odds, stand in zip(still, vague[2])
    ]


def drawn_cases(many, stands=3):
    for seed in range(many):
        source = random.Random(seed)
        share = (HALF, (9, 10), NIL, (1, 3), (99, 100))[seed % 5]
        vague = draw_vague(seed, 1 + seed % stands, 3, 1 + seed % 4, share=share)
        yield seed, vague, draw_row(source, vague[1], -3, 3)


def plans_of(seed, vague):
    source = random.Random(seed)
    choice = tuple(source.randrange(len(stand)) for stand in vague[2])
    return [plain(vague, choice), draw_still(seed, vague)]


class EndsTest(unittest.TestCase):
    def test_examples(self):
        self.assertEqual(worst_worths(VAGUE, (ONE,), FIRST), ((12, 5), (4, 1)))
        self.assertEqual(best_worths(VAGUE, (ONE,), FIRST), ((20, 7), (4, 1)))
        self.assertEqual(worst_worths(VAGUE, (ONE,), SECOND), ((2, 1), (4, 1)))

    def sides(self, vague, weights, still):
        yield -1, worst_worths(vague, weights, still), worst_house(vague, weights, still)
        yield 1, best_worths(vague, weights, still), best_house(vague, weights, still)

    def test_by_their_own_equations(self):
        for seed, vague, weights in drawn_cases(50, 4):
            for still in plans_of(seed, vague):
                for side, told, house in self.sides(vague, weights, still):
                    self.assertIs(type(told), tuple)
                    self.assertTrue(all(is_plain_fraction(each) for each in told))
                    self.assertEqual(row(told), down(vague, weights, still, row(told), side))
                    self.assertIs(fits(vague, house), True)
                    self.assertEqual(row(told), weighted_worths(house, weights, still))
                    for stand, own in zip(vague[2], house[2]):
                        for (ways, _), (chances, _) in zip(stand, own):
                            self.assertEqual(chances, filled(ways, told, side > 0))

    def test_beside_all_corner_houses(self):
        for seed, vague, weights in drawn_cases(40, 2):
            for choice in all_choices(vague)[:4]:
                still = plain(vague, choice)
                lists = [weighted_worths(house, weights, still) for house in corner_houses_of(vague, choice)]
                self.assertEqual(row(worst_worths(vague, weights, still)), [min(each) for each in zip(*lists)])
                self.assertEqual(row(best_worths(vague, weights, still)), [max(each) for each in zip(*lists)])
                self.assertIn(row(worst_worths(vague, weights, still)), lists)
                self.assertIn(row(best_worths(vague, weights, still)), lists)

    def test_beside_drawn_houses_that_fit(self):
        for seed, vague, weights in drawn_cases(40, 4):
            for still in plans_of(seed, vague):
                worst, greatest = row(worst_worths(vague, weights, still)), row(best_worths(vague, weights, still))
                for turn in range(6):
                    own = weighted_worths(draw_fitting(100 * seed + turn, vague), weights, still)
                    self.assertTrue(all(low <= each <= high for low, each, high in zip(worst, own, greatest)))

    def test_odds_beside_all_corners_of_all_deeds(self):
        # Each deed of each stand at each of its corners: with odds, too, the worst of them is met by one house.
        for seed in range(12):
            vague = draw_vague(seed, 2, 2, 1, share=(4, 5))
            still = tuple(draw_odds(random.Random(seed + at), len(stand)) for at, stand in enumerate(vague[2]))
            lots = [
                [tuple((each[0], pair(own)) for each, own in zip(ways, ends) if own) for ends in end_rows(ways)]
                for stand in vague[2] for ways, _ in stand
            ]
            lists = []
            for picked in product(*lots):
                rows = list(picked)
                made = tuple(tuple((rows.pop(0), gains) for _, gains in stand) for stand in vague[2])
                lists.append(weighted_worths((vague[0], 1, made), (ONE,), still))
            self.assertEqual(row(worst_worths(vague, (ONE,), still)), [min(each) for each in zip(*lists)])
            self.assertEqual(row(best_worths(vague, (ONE,), still)), [max(each) for each in zip(*lists)])

    def test_weights_turned_round(self):
        for seed, vague, weights in drawn_cases(20, 4):
            other = tuple((-top, bottom) for top, bottom in weights)
            for still in plans_of(seed, vague):
                told = tuple((-top, bottom) for top, bottom in best_worths(vague, other, still))
                self.assertEqual(worst_worths(vague, weights, still), told)

    def test_one_house_alone(self):
        for seed in range(20):
            house = draw_fitting(seed, draw_vague(seed, 3, 3, 2))
            weights, still = draw_row(random.Random(seed), 2), draw_still(seed, house)
            for told in (worst_worths, best_worths):
                self.assertEqual(row(told(vague_of(house), weights, still)), weighted_worths(house, weights, still))
            for told in (worst_house, best_house):
                self.assertEqual(told(vague_of(house), weights, still), house)

    def test_more_turns_than_one(self):
        # Filled by worths of 0 stand 0 comes first; what is worst shows itself step by step, from the last stand on.
        deed = [((0, NIL, ONE), (at, NIL, ONE)) for at in range(1, 6)]
        stands = tuple(((deed[at], (NIL,)),) for at in range(5)) + (((((5, ONE, ONE),), ((-1, 1),)),),)
        vague = (HALF, 1, stands)
        told = worst_worths(vague, (ONE,), ((ONE,),) * 6)
        self.assertEqual(told, ((-1, 16), (-1, 8), (-1, 4), (-1, 2), (-1, 1), (-2, 1)))
        self.assertEqual(best_worths(vague, (ONE,), ((ONE,),) * 6), ((0, 1),) * 5 + ((-2, 1),))

    def test_deeds_that_the_plan_does_not_do(self):
        house = worst_house(VAGUE, (ONE,), SECOND)
        self.assertEqual(house[2][0][0][0], ((0, (3, 4)), (1, (1, 4))))  # worths 2 and 4
        self.assertEqual(best_house(VAGUE, (ONE,), SECOND)[2][0][0][0], ((0, (1, 4)), (1, (3, 4))))

    def test_numbers_of_some_hundred_figures(self):
        low = (1, 10 ** 390)
        vague = (HALF, 1, (((((0, low, ONE), (1, low, ONE)), (HUGE,)),), ((((1, ONE, ONE),), (NIL,)),)))
        told = worst_worths(vague, (ONE,), ((ONE,), (ONE,)))
        self.assertEqual(row(told), down(vague, (ONE,), ((ONE,), (ONE,)), row(told)))
        again = worst_worths(vague, told[:1], ((ONE,), (ONE,)))
        self.assertEqual(row(again), [number(told[0]) ** 2, 0])


class SafestTest(unittest.TestCase):
    def test_examples(self):
        told = safest(VAGUE, (ONE,))
        self.assertEqual(told[:2], ((0, 0), ((12, 5), (4, 1))))
        self.assertEqual(told[2][2][0][0][0], ((0, (3, 4)), (1, (1, 4))))

    def test_by_its_own_words(self):
        for seed, vague, weights in drawn_cases(60, 4):
            choice, worths, house = safest(vague, weights)
            told = row(worths)
            self.assertIs(is_choice(house, choice), True)
            self.assertEqual(worst_worths(vague, weights, plain(vague, choice)), worths)
            self.assertEqual(told, [max(brought(vague, weights, told, deed) for deed in stand) for stand in vague[2]])
            self.assertIs(fits(vague, house), True)
            for at, (stand, own) in enumerate(zip(vague[2], house[2])):
                for (ways, _), (chances, gains) in zip(stand, own):
                    self.assertEqual(chances, filled(ways, worths, False))
                    gain = sum(number(weight) * number(each) for weight, each in zip(weights, gains))
                    behind = sum(number(chance) * told[to] for to, chance in chances)
                    self.assertLessEqual(gain + number(vague[0]) * behind, told[at])

    def test_beside_all_choices_and_drawn_plans(self):
        for seed, vague, weights in drawn_cases(40, 3):
            told = row(safest(vague, weights)[1])
            lists = [row(worst_worths(vague, weights, plain(vague, choice))) for choice in all_choices(vague)]
            self.assertEqual(told, [max(each) for each in zip(*lists)])
            for turn in range(3):
                other = row(worst_worths(vague, weights, draw_still(seed + turn, vague)))
                self.assertTrue(all(one <= two for one, two in zip(other, told)))

    def test_no_plan_has_more_in_its_house(self):
        for seed, vague, weights in drawn_cases(25, 3):
            _, worths, house = safest(vague, weights)
            lists = [weighted_worths(house, weights, plain(house, choice)) for choice in all_choices(house)]
            self.assertEqual(row(worths), [max(each) for each in zip(*lists)])

    def test_several_turns(self):
        steps = tuple(
            ((((at, ONE, ONE),), (NIL,)), (((at + 1, HALF, ONE), (0, NIL, HALF))[::-1] if at else ((1, ONE, ONE),), (NIL,)))
            for at in range(4)
        )
        vague = (HALF, 1, steps + (((((4, ONE, ONE),), (ONE,)),),))
        self.assertEqual(safest(vague, (ONE,))[0], (1, 1, 1, 1, 0))
        self.assertEqual(safest(vague, ((-1, 1),))[0], (0, 0, 0, 0, 0))

    def test_large_houses(self):
        for seed in range(4):
            vague = draw_vague(seed, 8, 4, 2, share=(9, 10))
            choice, worths, house = safest(vague, (ONE, (-1, 2)))
            told = row(worths)
            self.assertEqual(told, [max(brought(vague, (ONE, (-1, 2)), told, deed) for deed in stand) for stand in vague[2]])
            self.assertEqual(told, weighted_worths(house, (ONE, (-1, 2)), plain(house, choice)))


class SurelyTest(unittest.TestCase):
    def worst_pays(self, vague, start, still):
        pays = []
        for pay in range(vague[1]):
            alone = tuple(ONE if at == pay else NIL for at in range(vague[1]))
            pays.append(sum(number(one) * each for one, each in zip(start, row(worst_worths(vague, alone, still)))))
        return pays

    def asked(self, vague, start, bounds, still, worst):
        """Whether the bounds are surely kept; what is told against it is looked at."""
        sure = all(bound is None or each >= number(bound) for bound, each in zip(bounds, worst))
        self.assertIs(surely_keeps(vague, start, bounds, still), sure)
        told = not_kept(vague, start, bounds, still)
        if sure:
            self.assertIsNone(told)
        else:
            pay, house = told
            self.assertIs(type(told), tuple)
            self.assertIs(type(pay), int)
            self.assertIs(fits(vague, house), True)
            self.assertLess(plain_pays(house, start, still)[pay], number(bounds[pay]))
        return sure

    def test_bounds_at_the_worst_pays(self):
        seen = [0, 0]
        for seed, vague, _ in drawn_cases(40, 4):
            start = draw_start(seed, vague)
            source = random.Random(seed)
            for still in plans_of(seed, vague):
                worst = self.worst_pays(vague, start, still)
                for more in (Fraction(0), LITTLE, -LITTLE, Fraction(50), Fraction(-50)):
                    bounds = [pair(each + more) for each in worst]
                    for told in (bounds, [each if source.random() < 0.5 else None for each in bounds]):
                        seen[self.asked(vague, start, tuple(told), still, worst)] += 1
                    for at in range(vague[1]):
                        one = [pair(each + (more if at == pay else 0)) for pay, each in enumerate(worst)]
                        seen[self.asked(vague, start, tuple(one), still, worst)] += 1
                self.assertTrue(self.asked(vague, start, (None,) * vague[1], still, worst))
        self.assertGreater(min(seen), 150)

    def test_each_pay_has_its_own_worst_house(self):
        vague = (HALF, 2, (((((1, NIL, ONE), (2, NIL, ONE)), (NIL, NIL)),), ((((1, ONE, ONE),), (ONE, NIL)),),
                           ((((2, ONE, ONE),), (NIL, ONE)),)))
        still, start = ((ONE,), (ONE,), (ONE,)), (ONE, NIL, NIL)
        self.assertEqual(self.worst_pays(vague, start, still), [0, 0])
        self.assertTrue(self.asked(vague, start, (NIL, NIL), still, [0, 0]))
        self.assertEqual(not_kept(vague, start, (NIL, QUARTER), still)[0], 1)
        self.assertEqual(not_kept(vague, start, (None, QUARTER), still)[1][2][0][0][0], ((1, ONE),))
        self.assertEqual(not_kept(vague, start, (QUARTER, None), still)[1][2][0][0][0], ((2, ONE),))

    def test_in_every_house(self):
        for seed, vague, _ in drawn_cases(20, 3):
            start, still = draw_start(seed, vague), draw_still(seed, vague)
            worst = self.worst_pays(vague, start, still)
            bounds = tuple(pair(each) for each in worst)
            self.assertIs(surely_keeps(vague, start, bounds, still), True)
            for turn in range(5):
                pays = plain_pays(draw_fitting(seed + 50 * turn, vague), start, still)
                self.assertTrue(all(each >= least for each, least in zip(pays, worst)))

    def test_errors_in_order(self):
        for call in (surely_keeps, not_kept):
            start, bounds = (ONE, NIL), (ONE,)
            for arguments, kind, told in (
                ((SHOP, None, None, None), InvalidVague, SHOP), ((VAGUE, (ONE,), None, None), InvalidStart, None),
                ((VAGUE, (ONE, ONE), None, None), InvalidStart, None), ((VAGUE, (1, ONE), None, None), InvalidStart, 0),
                ((VAGUE, start, (ONE, ONE), None), InvalidBounds, None), ((VAGUE, start, (1,), None), InvalidBounds, 0),
                ((VAGUE, start, bounds, (TOSSED[0],)), InvalidStill, None),
                ((VAGUE, start, bounds, (TOSSED[0], (HALF,))), InvalidStill, 1),
            ):
                with self.assertRaises(kind) as caught:
                    call(*arguments)
                self.assertEqual(getattr(caught.exception, "given", getattr(caught.exception, "index", None)), told)
        with self.assertRaises(InvalidWeights):
            safest(VAGUE, (ONE, ONE))


if __name__ == "__main__":
    unittest.main()
