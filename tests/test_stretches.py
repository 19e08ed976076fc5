"""Points [20], [21], the corners of [28], and stretches.py."""

import random
import unittest
from fractions import Fraction
from itertools import permutations

from deedhouses.errors import InvalidChoice, InvalidFlag, InvalidHouse, InvalidStretches, InvalidVague, InvalidWorths
from deedhouses.houses import is_house
from deedhouses.stretches import corner_houses, corners, filled, fits, is_vague, vague_of
from tests.helpers import (
    HALF, HUGE, NIL, ONE, QUARTER, SHOP, are_stretches_too, bent, corner_houses_of, draw_fitting, draw_house, draw_row,
    draw_stretches, draw_vague, end_rows, fits_too, is_vague_too, number, pair, row, strange_values,
)

WIDE = (((0, QUARTER, (3, 4)), (1, QUARTER, (3, 4))), (ONE,))
VAGUE = (HALF, 1, ((WIDE, (((1, ONE, ONE),), (NIL,))), ((((1, ONE, ONE),), ((2, 1),)),)))


def one_deed(*ways):
    """A vague house of two stands with one deed of its own."""
    return HALF, 1, (((tuple(ways), (ONE,)),), ((((1, ONE, ONE),), (ONE,)),))


class VagueTest(unittest.TestCase):
    def test_what_is_vague(self):
        self.assertIs(is_vague(VAGUE), True)
        for seed in range(40):
            vague = draw_vague(seed, 1 + seed % 5, 3, 1 + seed % 4)
            self.assertIs(is_vague(vague), True)
            self.assertIs(is_vague_too(vague), True)
        for ways in (
            [(0, ONE, ONE)], [(1, NIL, ONE)], [(0, NIL, ONE), (1, NIL, ONE)], [(0, HALF, HALF), (1, HALF, HALF)],
            [(0, NIL, HALF), (1, NIL, HALF)], [(0, HALF, ONE), (1, HALF, ONE)], [(0, NIL, NIL), (1, NIL, ONE)],
        ):
            self.assertIs(is_vague(one_deed(*ways)), True, ways)

    def test_what_is_not(self):
        for ways in (
            [], [(0, HALF, QUARTER), (1, NIL, ONE)],  # LOW above HIGH
            [(0, (-1, 2), ONE)], [(0, NIL, (3, 2))], [(0, (3, 2), (3, 2))],  # below 0, above 1
            [(0, (2, 3), ONE), (1, HALF, ONE)], [(0, NIL, HALF), (1, NIL, (1, 3))], [(0, NIL, HALF)],  # no sum of 1
            [(0, NIL, ONE), (0, NIL, ONE)], [(1, NIL, ONE), (0, NIL, ONE)],  # twice, not ascending
            [(2, NIL, ONE)], [(0, NIL, ONE), (2, NIL, NIL)], [(-1, NIL, ONE)],  # no stands
            [(False, NIL, ONE)], [(0, (0, 2), ONE)], [(0, NIL, (2, 2))], [(0, 0, 1)], [(0, NIL)], [(0, NIL, ONE, ONE)],
            [[0, NIL, ONE]], [(0, None, ONE)], [None], [(0, (False, True), ONE)], [(0, ONE)],
        ):
            self.assertIs(is_vague(one_deed(*ways)), False, ways)
        self.assertIs(is_vague(SHOP), False)
        self.assertIs(is_vague(vague_of(SHOP)), True)
        for value in strange_values():
            self.assertIs(is_vague(value), False, value)

    def test_bent_at_any_depth(self):
        for value in [*bent(VAGUE), *bent(one_deed((0, HALF, HALF), (1, HALF, ONE))), *bent(draw_vague(5, 3, 2, 2))]:
            self.assertIs(is_vague(value), is_vague_too(value), value)

    def test_limits(self):
        deed = (tuple((at, NIL, QUARTER) for at in range(8)), (ONE,) * 4)
        for stands in (1, 8, 9):
            for deeds in (1, 4, 5):
                for pays in (1, 4, 5):
                    own = tuple((at, NIL, ONE) for at in range(stands))
                    value = (NIL, pays, (((own, (ONE,) * pays),) * deeds,) * stands)
                    self.assertIs(is_vague(value), stands < 9 and deeds < 5 and pays < 5)
        self.assertIs(is_vague((HALF, 4, ((deed,),) * 8)), True)
        self.assertIs(is_vague((HALF, 4, ((deed,),) * 7)), False)
        self.assertIs(is_vague((HALF, 4, ())), False)
        self.assertIs(is_vague((HALF, 4, ((), (deed,)))), False)
        self.assertIs(is_vague((ONE, 4, ((deed,),) * 8)), False)


class FitsTest(unittest.TestCase):
    def test_houses_that_fit(self):
        for seed in range(60):
            vague = draw_vague(seed, 1 + seed % 5, 3, 1 + seed % 3)
            house = draw_fitting(seed, vague)
            self.assertIs(fits(vague, house), True)
            self.assertIs(fits(vague, house=house), True)

    def test_what_does_not(self):
        vague = (HALF, 1, (
            (WIDE, (((0, NIL, HALF), (1, HALF, ONE)), (NIL,))), ((((1, ONE, ONE),), ((2, 1),)),),
        ))
        right = (HALF, 1, (
            ((((0, HALF), (1, HALF)), (ONE,)), (((1, ONE),), (NIL,))), ((((1, ONE),), ((2, 1),)),),
        ))
        self.assertIs(fits(vague, right), True)  # (0, NIL, HALF) is left out
        first, second = right[2]
        for other in (
            ((1, 3), 1, right[2]), (HALF, 1, (first, second, second)), (HALF, 1, ((first[0],), second)),
            (HALF, 1, ((first[0], first[1], first[1]), second)),
            (HALF, 1, (((first[0][0], (NIL,)), first[1]), second)),  # other gains
            (HALF, 2, tuple(tuple((chances, gains * 2) for chances, gains in stand) for stand in right[2])),  # other pays
            (HALF, 1, ((first[0], (((0, ONE),), (NIL,))), second)),  # HALF to ONE left out
            (HALF, 1, (first, ((((0, HALF), (1, HALF)), ((2, 1),)),))),  # a stand that is not told
            (HALF, 1, (((((0, (1, 5)), (1, (4, 5))), (ONE,)), first[1]), second)),  # below LOW
            (HALF, 1, (((((0, (4, 5)), (1, (1, 5))), (ONE,)), first[1]), second)),  # above HIGH
            (HALF, 1, (((((1, ONE),), (ONE,)), first[1]), second)),
        ):
            self.assertIs(is_house(other), True, other)
            self.assertIs(fits(vague, other), False, other)
        self.assertIs(fits((HALF, 1, vague[2] + vague[2][1:]), right), False)
        for ends in ((QUARTER, (3, 4)), ((3, 4), QUARTER)):
            self.assertIs(fits(vague, (HALF, 1, ((((tuple(enumerate(ends)), (ONE,)), first[1])), second))), True)

    def test_one_end_alone(self):
        # The other chance may be whatever it is: only one end of one stretch is passed, by a little.
        vague = one_deed((0, QUARTER, (3, 4)), (1, NIL, ONE))
        little = Fraction(1, 10 ** 9)
        for chance, told in (
            (Fraction(1, 4), True), (Fraction(1, 4) - little, False), (Fraction(3, 4), True), (Fraction(3, 4) + little, False),
        ):
            house = (HALF, 1, (((((0, pair(chance)), (1, pair(1 - chance))), (ONE,)),), ((((1, ONE),), (ONE,)),)))
            self.assertIs(fits(vague, house), told)

    def test_whatever_it_is(self):
        for value in [*strange_values(), VAGUE, list(SHOP)]:
            self.assertIs(fits(VAGUE, value), False, value)
        for seed in range(12):
            vague = draw_vague(seed, 2, 2, 1)
            house = draw_fitting(seed, vague)
            for value in bent(house):
                self.assertIs(fits(vague, value), is_house(value) and fits_too(vague, value), value)

    def test_just_one_fits(self):
        for seed in range(20):
            house = draw_house(seed, 1 + seed % 4, 3, 2)
            vague = vague_of(house)
            self.assertIs(is_vague(vague), True)
            self.assertIs(fits(vague, house), True)
            self.assertEqual(draw_fitting(seed, vague), house)
            for value in list(bent(house))[:200]:
                self.assertIs(fits(vague, value), type(value) is tuple and value == house and is_house(value))
        self.assertEqual(vague_of(SHOP)[2][0][0], (((0, HALF, HALF), (1, HALF, HALF)), ((2, 1), NIL)))

    def test_errors(self):
        for wrong in (None, SHOP, 5, [VAGUE]):
            with self.assertRaises(InvalidVague) as caught:
                fits(wrong, None)
            self.assertIs(caught.exception.given, wrong)
        for wrong in (None, VAGUE, 5):
            with self.assertRaises(InvalidHouse) as caught:
                vague_of(wrong)
            self.assertIs(caught.exception.given, wrong)


def sum_of(chances, worths):
    return sum(number(chance) * number(worths[at]) for at, chance in chances)


class FilledTest(unittest.TestCase):
    def test_by_hand(self):
        ways = ((0, QUARTER, (3, 4)), (1, NIL, HALF), (3, NIL, ONE))
        worths = ((3, 1), ONE, NIL, (2, 1))
        self.assertEqual(filled(ways, worths, False), ((0, QUARTER), (1, HALF), (3, QUARTER)))
        self.assertEqual(filled(ways, worths, True), ((0, (3, 4)), (3, QUARTER)))  # a chance of 0 is left out
        # Of like worths the lesser index is first, both ways.
        for is_greatest in (False, True):
            self.assertEqual(filled(ways, (ONE,) * 4, is_greatest), ((0, (3, 4)), (1, QUARTER)))
        self.assertEqual(filled(ways, (ONE, NIL, NIL, NIL), False), ((0, QUARTER), (1, HALF), (3, QUARTER)))
        self.assertEqual(filled(ways, (NIL, ONE, NIL, ONE), True), ((0, QUARTER), (1, HALF), (3, QUARTER)))

    def test_beside_all_corner_rows(self):
        for seed in range(200):
            source = random.Random(seed)
            many = 1 + seed % 6
            ways = draw_stretches(source, many)
            worths = draw_row(source, many + seed % 3)
            for is_greatest in (False, True):
                told = filled(ways, worths, is_greatest)
                self.assertEqual([at for at, _ in told], sorted({at for at, _ in told}))
                self.assertTrue(all(number(chance) > 0 for _, chance in told))
                self.assertEqual(sum(number(chance) for _, chance in told), 1)
                self.assertTrue(fits_too((HALF, 1, (((ways, ()),),)), (HALF, 1, (((told, ()),),))))
                sums = [sum(own * number(worths[each[0]]) for own, each in zip(ends, ways)) for ends in end_rows(ways)]
                self.assertEqual(sum_of(told, worths), max(sums) if is_greatest else min(sums))

    def test_the_order_of_like_worths(self):
        # Filled as told, step by step, with Python's own sort, which keeps the order of like ones.
        for seed in range(150):
            source = random.Random(seed)
            ways = draw_stretches(source, 5)
            worths = tuple((source.randint(0, 2), 1) for _ in range(5))
            for is_greatest in (False, True):
                given = {at: number(low) for at, low, _ in ways}
                left = 1 - sum(given.values())
                order = sorted(ways, key=lambda each: (-1 if is_greatest else 1) * number(worths[each[0]]))
                for at, low, high in order:
                    more = min(left, number(high) - number(low))
                    given[at] += more
                    left -= more
                told = tuple((at, pair(given[at])) for at in sorted(given) if given[at] != 0)
                self.assertEqual(filled(ways, worths, is_greatest), told)

    def test_low_and_high_alike(self):
        ways = ((0, HALF, HALF), (2, QUARTER, QUARTER), (5, QUARTER, QUARTER))
        for is_greatest in (False, True):
            self.assertEqual(filled(ways, (NIL,) * 8, is_greatest), ((0, HALF), (2, QUARTER), (5, QUARTER)))
        self.assertEqual(filled(((0, NIL, NIL), (1, ONE, ONE)), (NIL, ONE), False), ((1, ONE),))

    def test_how_many_worths(self):
        ways = ((1, NIL, ONE), (4, NIL, ONE))
        for many in range(10):
            if many in (5, 6, 7, 8):
                self.assertEqual(filled(ways, (NIL,) * many, False), ((1, ONE),))
            else:
                self.raised(InvalidWorths, "index", None, ways, (NIL,) * many, False)
        self.assertEqual(filled(((7, ONE, ONE),), (NIL,) * 8, True), ((7, ONE),))
        for wrong in (None, [NIL] * 5, 5, "abcde", {}):
            self.raised(InvalidWorths, "index", None, ways, wrong, False)
        self.raised(InvalidWorths, "index", 0, ways, (0, 1, 2, 3, 4), False)
        self.raised(InvalidWorths, "index", 7, ways, (NIL,) * 7 + (None,), False)
        self.raised(InvalidWorths, "index", 2, ways, (NIL, ONE, (2, 2), None, 1), False)

    def test_other_errors(self):
        right = ((0, NIL, ONE), (7, NIL, ONE))
        worths = (NIL,) * 8
        for wrong in (0, 1, None, "True", (), [], (True,)):
            self.raised(InvalidFlag, "given", wrong, right, worths, wrong)
        for wrong in (None, (), ((8, NIL, ONE),), ((0, NIL, HALF),), list(right), ((0, ONE),), right[::-1]):
            self.raised(InvalidStretches, "given", wrong, wrong, None, None)
            with self.assertRaises(InvalidStretches) as caught:
                corners(wrong)
            self.assertIs(caught.exception.given, wrong)
        self.raised(InvalidWorths, "index", None, right, None, None)
        for value in bent(right):
            if are_stretches_too(value, 8):
                self.assertEqual(sum(number(chance) for _, chance in filled(value, worths, True)), 1)
            else:
                self.raised(InvalidStretches, "given", value, value, worths, True)

    def raised(self, kind, attribute, told, *arguments):
        with self.assertRaises(kind) as caught:
            filled(*arguments)
        if attribute == "given":
            self.assertIs(caught.exception.given, told)
        else:
            self.assertEqual(caught.exception.index, told)

    def test_numbers_of_some_hundred_figures(self):
        low = (1, 10 ** 390)
        told = filled(((0, low, ONE), (1, low, ONE)), (HUGE, (HUGE[0] + 10, HUGE[1])), False)
        self.assertEqual(told, ((0, (10 ** 390 - 1, 10 ** 390)), (1, low)))


class CornersTest(unittest.TestCase):
    def test_by_hand(self):
        self.assertEqual(corners(WIDE[0]), (((1, 4), (3, 4)), ((3, 4), (1, 4))))
        self.assertEqual(corners(((3, NIL, ONE),)), ((ONE,),))
        self.assertEqual(corners(((3, ONE, ONE),)), ((ONE,),))
        self.assertEqual(corners(((0, HALF, HALF), (1, NIL, ONE))), ((HALF, HALF),))
        self.assertEqual(corners(((0, NIL, ONE), (1, NIL, ONE), (2, NIL, ONE))), ((NIL, NIL, ONE), (NIL, ONE, NIL), (ONE, NIL, NIL)))
        # Compared as pairs of whole numbers these would stand the other way round.
        self.assertEqual(corners(((0, (2, 5), (3, 4)), (1, NIL, ONE))), (((2, 5), (3, 5)), ((3, 4), QUARTER)))
        self.assertEqual(corners(((0, (4, 9), HALF), (1, NIL, ONE))), (((4, 9), (5, 9)), (HALF, HALF)))

    def test_beside_all_rows_of_ends(self):
        for seed in range(150):
            ways = draw_stretches(random.Random(seed), 1 + seed % 6)
            told = corners(ways)
            self.assertEqual([row(each) for each in told], sorted(end_rows(ways)))
            self.assertEqual(len(told), len(set(told)))
            self.assertTrue(all(type(each) is tuple for each in told))

    def test_they_are_the_rows_filled_in_all_orders(self):
        for seed in range(60):
            ways = draw_stretches(random.Random(seed), 1 + seed % 5)
            found = set()
            for order in permutations(range(len(ways))):
                worths = [NIL] * 8
                for place, at in enumerate(order):
                    worths[ways[at][0]] = (place, 1)
                told = dict(filled(ways, tuple(worths), False))
                found.add(tuple(told.get(at, NIL) for at, _, _ in ways))
            self.assertEqual(set(corners(ways)), found)

    def test_many_stands(self):
        ways = tuple((at, NIL, QUARTER) for at in range(8))
        self.assertEqual(len(corners(ways)), 70)
        ways = tuple((at, NIL, (2, 7)) for at in range(8))
        self.assertEqual(len(corners(ways)), 280)
        self.assertEqual([row(each) for each in corners(ways)], sorted(end_rows(ways)))

    def test_corner_houses(self):
        self.assertEqual([corner_houses(VAGUE, (0, 0)), corner_houses(VAGUE, (1, 0))], [2, 1])
        for seed in range(30):
            vague = draw_vague(seed, 1 + seed % 3, 3, 1)
            source = random.Random(seed)
            choice = tuple(source.randrange(len(stand)) for stand in vague[2])
            told = corner_houses(vague, choice)
            self.assertEqual(told, len(list(corner_houses_of(vague, choice))))
            self.assertIs(type(told), int)
        ways = tuple((at, NIL, (2, 7)) for at in range(8))
        self.assertEqual(corner_houses((HALF, 1, (((ways, (ONE,)),),) * 8), (0,) * 8), 280 ** 8)

    def test_errors_of_corner_houses(self):
        for vague, choice, kind, told in (
            (SHOP, (0, 0), InvalidVague, SHOP), (None, None, InvalidVague, None), (VAGUE, (0,), InvalidChoice, None),
            (VAGUE, (2, 0), InvalidChoice, 0), (VAGUE, (1, True), InvalidChoice, 1), (VAGUE, [0, 0], InvalidChoice, None),
        ):
            with self.assertRaises(kind) as caught:
                corner_houses(vague, choice)
            self.assertEqual(getattr(caught.exception, "given", getattr(caught.exception, "index", None)), told)


class SumsTest(unittest.TestCase):
    def test_no_chances_within_have_a_lesser_sum(self):
        for seed in range(60):
            vague = draw_vague(seed, 4, 3, 1)
            worths = draw_row(random.Random(seed), 4)
            for turn in range(4):
                house = draw_fitting(10 * seed + turn, vague)
                for told, stand in zip(vague[2], house[2]):
                    for (ways, _), (chances, _) in zip(told, stand):
                        least, greatest = (sum_of(filled(ways, worths, way), worths) for way in (False, True))
                        self.assertLessEqual(least, sum_of(chances, worths))
                        self.assertGreaterEqual(greatest, sum_of(chances, worths))

if __name__ == "__main__":
    unittest.main()
