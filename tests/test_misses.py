"""Points [47], [48] and misses.py."""

import random
import unittest
from fractions import Fraction

from deedhouses.errors import InvalidHouse, InvalidNumber, InvalidPlayer, InvalidStart, TooMany
from deedhouses.logs import is_sketch, reach
from deedhouses.misses import mean_counts, miss_bound, miss_chance, sketch_of
from deedhouses.runs import run, ways
from deedhouses.stretches import fits
from tests.goings import draw_player, gone_ways
from tests.helpers import COIN, HALF, HUGE, NIL, ONE, QUARTER, SHOP, TOSSED, TURNS, TWO, draw_house, draw_start, number, pair, row

STILL = ("still", TOSSED)
START = (ONE, NIL)


def offs(house, way):
    """For each stand, deed and way on how far its count is from the mean of so many times."""
    found = {}
    for at, stand in enumerate(house[2]):
        for deed, (chances, _) in enumerate(stand):
            came = [to for own, done, to in way if (own, done) == (at, deed)]
            for to, chance in chances:
                found[at, deed, to] = came.count(to) - number(chance) * len(came), len(came), number(chance)
    return found


class MissTest(unittest.TestCase):
    def test_examples(self):
        self.assertEqual(mean_counts(SHOP, START, STILL, 2), (((7, 8), (7, 8)), (QUARTER,)))
        self.assertEqual(miss_bound(SHOP, START, STILL, 2, (3, 4)), (7, 9))
        self.assertEqual(miss_chance(SHOP, START, STILL, 2, (3, 4)), (1, 16))

    def test_sketches(self):
        self.assertEqual(sketch_of(SHOP), (HALF, 2, (
            ((((0, NIL, ONE), (1, NIL, ONE)), (TWO, NIL)), (((0, NIL, ONE),), (ONE, ONE))), ((((0, NIL, ONE),), (NIL, NIL)),),
        )))
        for seed in range(20):
            house = draw_house(seed, 1 + seed % 5)
            sketch = sketch_of(house)
            self.assertIs(is_sketch(sketch), True)
            self.assertIs(fits(sketch, house), True)
            for stand, told in zip(house[2], sketch[2]):
                for (chances, gains), (stretches, own) in zip(stand, told):
                    self.assertEqual([at for at, _ in chances], [at for at, _, _ in stretches])
                    self.assertEqual(gains, own)
        for wrong in (None, 5, (HALF, 2), SHOP[2]):
            with self.assertRaises(InvalidHouse) as caught:
                sketch_of(wrong)
            self.assertIs(caught.exception.given, wrong)

    def test_mean_counts_and_squares_beside_all_ways(self):
        for seed in range(45):
            house = draw_house(seed, 1 + seed % 3, 2)
            start, player = draw_start(seed, house), draw_player(seed, house)
            for many in (0, 1, 3, 4):
                counts = mean_counts(house, start, player, many)
                sums = [[Fraction(0)] * len(stand) for stand in house[2]]
                squares = {}
                for way, chance in gone_ways(house, start, player, many).items():
                    for at, deed, _ in way:
                        sums[at][deed] += chance
                    for key, (off, _, _) in offs(house, way).items():
                        squares[key] = squares.get(key, Fraction(0)) + chance * off ** 2
                self.assertEqual([row(each) for each in counts], sums)
                self.assertEqual(sum(sum(each) for each in sums), many)
                for (at, deed, to), square in squares.items():
                    chance = number(dict(house[2][at][deed][0])[to])
                    self.assertEqual(square, chance * (1 - chance) * sums[at][deed], (seed, many))
                allowance = pair(Fraction(1 + seed % 5, 2))
                bound = number(miss_bound(house, start, player, many, allowance))
                self.assertEqual(bound, sum(squares.values()) / number(allowance) ** 2)
                most = max(sum(number(each) * (1 - number(each)) for _, each in deed[0]) for stand in house[2] for deed in stand)
                self.assertLessEqual(bound, many * most / number(allowance) ** 2)

    def test_counts_of_many_steps(self):
        for seed in range(6):
            house = draw_house(seed, 3)
            start, player = draw_start(seed, house), draw_player(seed, house)
            counts = mean_counts(house, start, player, 60)
            self.assertEqual(sum(sum(row(each)) for each in counts), 60)
        self.assertEqual(mean_counts(COIN, (ONE,), ("minded", TURNS), 60), (((30, 1), (30, 1)),))
        self.assertEqual(mean_counts((NIL, *COIN[1:]), (ONE,), ("minded", TURNS), 7), (((4, 1), (3, 1)),))

    def test_the_chance_beside_all_ways(self):
        above = 0
        for seed in range(45):
            house = draw_house(seed, 1 + seed % 3, 2)
            start, player = draw_start(seed, house), draw_player(seed, house)
            for many in (0, 2, 3):
                gone = gone_ways(house, start, player, many)
                if len(gone) > 400:
                    with self.assertRaises(TooMany) as caught:
                        miss_chance(house, start, player, many, ONE)
                    self.assertEqual(caught.exception.given, len(gone))
                    continue
                for allowance in (Fraction(1, 4), Fraction(1, 2), Fraction(2, 3), Fraction(1), Fraction(3, 2)):
                    missed = Fraction(0)
                    for way, chance in gone.items():
                        if any(abs(off) > allowance for off, _, _ in offs(house, way).values()):
                            missed += chance
                    told = number(miss_chance(house, start, player, many, pair(allowance)))
                    self.assertEqual(told, missed)
                    self.assertLessEqual(told, number(miss_bound(house, start, player, many, pair(allowance))))
                    above += told > 0
        self.assertGreater(above, 30)

    def test_an_allowance_that_a_count_just_reaches(self):
        # Twice by halves: two and none are off by one, the others not at all.
        house = (HALF, 1, (((((0, HALF), (1, HALF)), (ONE,)),), ((((0, HALF), (1, HALF)), (NIL,)),)))
        player = ("still", ((ONE,), (ONE,)))
        self.assertEqual(miss_chance(house, START, player, 1, HALF), NIL)
        self.assertEqual(miss_chance(house, START, player, 1, (499, 1000)), ONE)
        self.assertEqual(miss_chance(SHOP, START, ("still", ((ONE, NIL), (ONE,))), 2, ONE), NIL)
        self.assertEqual(miss_chance(SHOP, START, ("still", ((ONE, NIL), (ONE,))), 2, (999, 1000)), QUARTER)

    def test_a_house_fits_the_reach_exactly_if_it_is_not_missed(self):
        source = random.Random(3)
        missed = kept = 0
        for seed in range(30):
            house = draw_house(seed, 1 + seed % 3, 2)
            start, player = draw_start(seed, house), draw_player(seed, house)
            dice = tuple(pair(Fraction(source.randrange(30), 30)) for _ in range(81))
            way = run(house, start, player, dice)
            for allowance in (Fraction(1, 3), Fraction(1), Fraction(2), Fraction(5)):
                told = fits(reach(sketch_of(house), way, pair(allowance)), house)
                is_off = any(abs(off) > allowance for off, _, _ in offs(house, way).values())
                self.assertIs(told, not is_off)
                missed += is_off
                kept += not is_off
            few = ways(house, start, ("still", tuple((ONE,) + (NIL,) * (len(stand) - 1) for stand in house[2])), 2)
            for allowance in (QUARTER, HALF, ONE):
                off = [chance for own, chance in few if not fits(reach(sketch_of(house), own, allowance), house)]
                player = ("still", tuple((ONE,) + (NIL,) * (len(stand) - 1) for stand in house[2]))
                self.assertEqual(number(miss_chance(house, start, player, 2, allowance)), sum(row(off)))
        self.assertGreater(missed, 20)
        self.assertGreater(kept, 20)

    def test_wrong_arguments_in_order(self):
        for call, more in ((mean_counts, ()), (miss_bound, (NIL,)), (miss_chance, (NIL,))):
            for ahead, kind in (
                ((5, 5, 5, 61), InvalidHouse), ((SHOP, 5, 5, 61), InvalidStart), ((SHOP, START, 5, 61), InvalidPlayer),
                ((SHOP, START, STILL, 61), InvalidNumber),
            ):
                with self.assertRaises(kind) as caught:
                    call(*ahead, *more)
            self.assertEqual(caught.exception.given, 61)
        for call in (miss_bound, miss_chance):
            for wrong in (NIL, (-1, 2), (2, 4), None, True, 1, "1", (), [1, 1], (1, 0), (True, 1)):
                with self.assertRaises(InvalidNumber) as caught:
                    call(SHOP, START, STILL, 3, wrong)
                self.assertIs(caught.exception.given, wrong)
        with self.assertRaises(InvalidNumber) as caught:
            miss_chance(SHOP, START, STILL, 21, ONE)
        self.assertEqual(caught.exception.given, 21)
        self.assertEqual(miss_bound(SHOP, START, STILL, 60, HUGE)[0] > 0, True)
        with self.assertRaises(InvalidNumber):
            miss_chance(SHOP, START, STILL, 20, NIL)
        with self.assertRaises(TooMany):
            miss_chance(SHOP, START, STILL, 20, ONE)


if __name__ == "__main__":
    unittest.main()
