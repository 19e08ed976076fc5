"""Point [26] and logs.py."""

import random
import unittest
from fractions import Fraction

from deedhouses.errors import InvalidLog, InvalidNumber, InvalidVague
from deedhouses.logs import counts_of, is_sketch, reach
from deedhouses.stretches import fits, is_vague
from deedhouses.worst import best_worths, worst_worths
from tests.helpers import (
    HALF, HUGE, NIL, ONE, QUARTER, THREE, TWO, bent, draw_fitting, draw_house, draw_row, draw_still, fits_too, is_vague_too,
    number, pair, row, strange_values,
)

OPEN = ((0, NIL, ONE), (1, NIL, ONE))
SKETCH = (HALF, 1, (((OPEN, (ONE,)),), ((((1, NIL, ONE),), (TWO,)),)))
LOG = ((0, 0, 0), (0, 0, 1), (0, 0, 0), (0, 0, 0))


def sketch_too(house):
    """The sketch of a house: its CHANCES' stands, each from 0 to 1."""
    stands = tuple(
        tuple((tuple((at, NIL, ONE) for at, _ in chances), gains) for chances, gains in stand) for stand in house[2]
    )
    return house[0], house[1], stands


def is_sketch_too(value):
    if not is_vague_too(value):
        return False
    return all(low == NIL and high == ONE for stand in value[2] for ways, _ in stand for _, low, high in ways)


def draw_log(source, sketch, many):
    rows = []
    for _ in range(many):
        at = source.randrange(len(sketch[2]))
        deed = source.randrange(len(sketch[2][at]))
        rows.append((at, deed, source.choice(sketch[2][at][deed][0])[0]))
    return tuple(rows)


def is_within_log(house, sketch, log, allowance):
    """Whether for each deed that was done each chance times N is within A of the count."""
    for at, stand in enumerate(sketch[2]):
        for deed, (ways, _) in enumerate(stand):
            came = [to for one, two, to in log if (one, two) == (at, deed)]
            chances = dict(house[2][at][deed][0])
            for to, _, _ in ways:
                far = abs(number(chances.get(to, NIL)) * len(came) - came.count(to))
                if came and far > number(allowance):
                    return False
    return True


class SketchTest(unittest.TestCase):
    def test_what_is_a_sketch(self):
        self.assertIs(is_sketch(SKETCH), True)
        for seed in range(20):
            self.assertIs(is_sketch(sketch_too(draw_house(seed, 1 + seed % 5, 3, 2))), True)
        for low, high in ((NIL, HALF), (HALF, ONE), (QUARTER, (3, 4)), (ONE, ONE)):
            value = (HALF, 1, (((((0, low, high), (1, NIL, ONE)), (ONE,)),), SKETCH[2][1]))
            self.assertIs(is_vague(value), True)
            self.assertIs(is_sketch(value), False)

    def test_whatever_it_is(self):
        for value in strange_values():
            self.assertIs(is_sketch(value), False)
        for value in [*bent(SKETCH), *bent(sketch_too(draw_house(3, 3, 2, 2)))]:
            self.assertIs(is_sketch(value), is_sketch_too(value), value)


class CountsTest(unittest.TestCase):
    def test_by_hand(self):
        self.assertEqual(counts_of(SKETCH, ()), (((0, (0, 0)),), ((0, (0,)),)))
        self.assertEqual(counts_of(SKETCH, LOG), (((4, (3, 1)),), ((0, (0,)),)))
        self.assertEqual(counts_of(SKETCH, LOG + ((1, 0, 1),) * 196), (((4, (3, 1)),), ((196, (196,)),)))

    def test_drawn_logs(self):
        for seed in range(40):
            source = random.Random(seed)
            sketch = sketch_too(draw_house(seed, 1 + seed % 5, 4, 1))
            log = draw_log(source, sketch, (0, 1, 2, 10, 60, 199, 200)[seed % 7])
            told = counts_of(sketch, log)
            self.assertEqual([len(each) for each in told], [len(stand) for stand in sketch[2]])
            for at, stand in enumerate(sketch[2]):
                for deed, (ways, _) in enumerate(stand):
                    many = sum(each[:2] == (at, deed) for each in log)
                    came = tuple(log.count((at, deed, to)) for to, _, _ in ways)
                    self.assertEqual(told[at][deed], (many, came))
                    self.assertEqual(many, sum(came))

    def test_the_same_row_many_times(self):
        for many in (1, 100, 200):
            self.assertEqual(counts_of(SKETCH, ((0, 0, 1),) * many)[0][0], (many, (0, many)))

    def test_what_is_no_log(self):
        sketch = (HALF, 1, (((OPEN, (ONE,)), (((1, NIL, ONE),), (ONE,))), ((((1, NIL, ONE),), (TWO,)),)))
        right = (0, 0, 1)
        for wrong, index in (
            (None, None), ([], None), ("", None), ({}, None), (5, None), ((right,) * 201, None), ([right], None),
            ((right,) * 200 + (None,), None), ((None,), 0), ((right, None), 1), ((right, right[:2]), 1), ((right + (0,),), 0),
            ((list(right),), 0), (((2, 0, 0),), 0), (((-1, 0, 0),), 0), (((0, 2, 1),), 0), ((right, (0, -1, 1)), 1),
            (((0, 1, 0),), 0),  # no told stand of this deed
            (((1, 1, 1),), 0), (((1, 0, 0),), 0), ((right, right, (0, 0, 2)), 2), (((False, 0, 1),), 0), (((0, False, 1),), 0),
            (((0, 0, True),), 0), (((-1, 0, 1),), 0), (((0, 0, (1,)),), 0), (((0, 0, None), None), 0), (((0, 0, "1"),), 0), (((0, 0, -1),), 0),
            ((right, ((0,), 0, 1)), 1), ((right, (0, [], 1)), 1), (((10 ** 399, 0, 1),), 0), ((right,) * 199 + ((0, 1, 0),), 199),
        ):
            for call in (lambda: counts_of(sketch, wrong), lambda: reach(sketch, wrong, None)):
                with self.assertRaises(InvalidLog, msg=wrong) as caught:
                    call()
                self.assertEqual(caught.exception.index, index, wrong)
        self.assertEqual(counts_of(sketch, (right,) * 200)[0][0][0], 200)

    def test_what_is_no_sketch(self):
        vague = (HALF, 1, (((((0, NIL, HALF), (1, NIL, ONE)), (ONE,)),), SKETCH[2][1]))
        for wrong in (None, 5, vague, [SKETCH], SKETCH[2]):
            for call in (lambda: counts_of(wrong, None), lambda: reach(wrong, None, None)):
                with self.assertRaises(InvalidVague) as caught:
                    call()
                self.assertIs(caught.exception.given, wrong)


class ReachTest(unittest.TestCase):
    def test_by_hand(self):
        told = reach(SKETCH, LOG, ONE)
        self.assertEqual(told[2][0][0][0], ((0, (1, 2), (1, 1)), (1, (0, 1), (1, 2))))
        self.assertEqual(told[2][1][0], SKETCH[2][1][0])
        self.assertEqual(reach(SKETCH, LOG, NIL)[2][0][0][0], ((0, (3, 4), (3, 4)), (1, (1, 4), (1, 4))))
        self.assertEqual(reach(SKETCH, LOG, HALF)[2][0][0][0], ((0, (5, 8), (7, 8)), (1, (1, 8), (3, 8))))
        self.assertEqual(reach(SKETCH, LOG, THREE)[2][0][0][0], ((0, NIL, ONE), (1, NIL, ONE)))
        self.assertEqual(reach(SKETCH, LOG, HUGE), SKETCH)
        self.assertEqual(reach(SKETCH, (), NIL), SKETCH)

    def drawn(self, many):
        for seed in range(many):
            source = random.Random(seed)
            house = draw_house(seed, 1 + seed % 4, 3, 1 + seed % 3, share=(HALF, (4, 5))[seed % 2])
            sketch = sketch_too(house)
            log = draw_log(source, sketch, (0, 1, 3, 12, 40)[seed % 5])
            yield seed, source, sketch, log

    def test_which_houses_fit(self):
        seen = [0, 0]
        for seed, source, sketch, log in self.drawn(60):
            for allowance in (NIL, (1, 3), ONE, (5, 2), (300, 1)):
                told = reach(sketch, log, allowance)
                self.assertIs(is_vague(told), True)
                inside = draw_fitting(seed, told)
                self.assertTrue(is_within_log(inside, sketch, log, allowance))
                for turn in range(4):
                    house = draw_fitting(10 * seed + turn, sketch)
                    right = is_within_log(house, sketch, log, allowance)
                    self.assertIs(fits(told, house), right)
                    seen[right] += 1
        self.assertGreater(min(seen), 150)

    def test_ends_are_just_at_the_allowance(self):
        def house(part):
            return HALF, 1, (((((0, pair(part)), (1, pair(1 - part))), (ONE,)),), ((((1, ONE),), (TWO,)),))

        little = Fraction(1, 10 ** 9)
        told = reach(SKETCH, LOG, HALF)
        for part, right in ((Fraction(5, 8), True), (Fraction(5, 8) - little, False), (Fraction(7, 8), True),
                            (Fraction(7, 8) + little, False), (Fraction(3, 4), True)):
            self.assertIs(fits(told, house(part)), right)
            self.assertIs(is_within_log(house(part), SKETCH, LOG, HALF), right)
            self.assertIs(fits_too(told, house(part)), right)

    def test_a_greater_allowance(self):
        for seed, source, sketch, log in self.drawn(20):
            still, weights = draw_still(seed, sketch), draw_row(source, sketch[1])
            last = None
            for allowance in (NIL, HALF, ONE, TWO, (9, 1)):
                told = reach(sketch, log, allowance)
                worst, greatest = row(worst_worths(told, weights, still)), row(best_worths(told, weights, still))
                if last is not None:
                    self.assertTrue(all(one <= two for one, two in zip(worst, last[0])))
                    self.assertTrue(all(one >= two for one, two in zip(greatest, last[1])))
                last = worst, greatest

    def test_one_row_more_and_one_more_allowed(self):
        for seed, source, sketch, log in self.drawn(40):
            more = draw_log(source, sketch, 1)
            for allowance in (NIL, HALF, ONE, TWO):
                wider = pair(number(allowance) + 1)
                house = draw_fitting(seed, reach(sketch, log + more, allowance))
                self.assertIs(fits(reach(sketch, log, wider), house), True)
                house = draw_fitting(seed, reach(sketch, log, allowance))
                self.assertIs(fits(reach(sketch, log + more, wider), house), True)
            still, weights = draw_still(seed, sketch), draw_row(source, sketch[1])
            own = row(worst_worths(reach(sketch, log + more, ONE), weights, still))
            least = row(worst_worths(reach(sketch, log, TWO), weights, still))
            greatest = row(worst_worths(reach(sketch, log, NIL), weights, still))
            self.assertTrue(all(low <= each <= high for low, each, high in zip(least, own, greatest)))

    def test_allowance(self):
        for wrong in (None, True, 0, 1, (-1, 2), (2, 2), (1, 0), [1, 2], "1", (1, 2, 3), (True, 1)):
            with self.assertRaises(InvalidNumber) as caught:
                reach(SKETCH, LOG, wrong)
            self.assertIs(caught.exception.given, wrong)


if __name__ == "__main__":
    unittest.main()
