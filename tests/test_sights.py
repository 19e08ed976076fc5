"""Points [31], [32], the rows of [33], and sights.py."""

import random
import unittest
from fractions import Fraction
from itertools import product

from deedhouses.errors import (
    InvalidDim, InvalidHold, InvalidLookout, InvalidNumber, InvalidStart, InvalidTree, InvalidWeights,
)
from deedhouses.houses import is_house
from deedhouses.sights import behind, holds_of, is_dim, is_lookout, is_tree, lookout_pays, row_of
from tests.helpers import (
    COIN, HALF, HUGE, NIL, ONE, QUARTER, SHOP, TWO, all_trees, bent, draw_dim, draw_house, draw_row, draw_start,
    is_plain_fraction, is_tree_too, number, pair, row, strange_values, tree_number,
)

LEFT = ((((0, ONE),), (ONE,)), (((0, ONE),), (NIL,)), (((2, ONE),), (NIL,)))
RIGHT = ((((1, ONE),), (NIL,)), (((1, ONE),), (ONE,)), (((3, ONE),), (NIL,)))
DUSK = ((HALF, 1, (LEFT, RIGHT, ((((2, ONE),), (TWO,)),), ((((3, ONE),), (TWO,)),))), (0, 0, 1, 1))
LOOK = (2, ((0, ((), ())), (0, ((), ()))))
EVEN = (HALF, HALF, NIL, NIL)


def is_dim_too(value):
    """A dim house by [31]'s words."""
    if type(value) is not tuple or len(value) != 2 or not is_house(value[0]):
        return False
    house, marks = value
    if type(marks) is not tuple or len(marks) != len(house[2]):
        return False
    if not all(type(mark) is int and mark in (0, 1, 2) for mark in marks):
        return False
    if not all(set(range(mark)) <= set(marks) for mark in marks):
        return False
    return all(
        len(house[2][one]) == len(house[2][two]) for one, two in product(range(len(marks)), repeat=2) if marks[one] == marks[two]
    )


def is_lookout_too(dim, many, value):
    if type(value) is not tuple or len(value) != max(dim[1]) + 1:
        return False
    return all(is_tree_too(dim, mark, many, tree) for mark, tree in enumerate(value))


def draw_tree(source, dim, mark, many):
    if many == 0:
        return ()
    deeds = len(dim[0][2][dim[1].index(mark)])
    return source.randrange(deeds), tuple(draw_tree(source, dim, other, many - 1) for other in range(max(dim[1]) + 1))


def gone(dim, start, many, lookout):
    """The pays of a lookout, by going all ways through the house step by step."""
    house, marks = dim
    pays = [Fraction(0)] * house[1]
    there = [(number(chance), at, lookout[marks[at]]) for at, chance in enumerate(start)]
    counted = Fraction(1)
    for _ in range(many):
        later = []
        for chance, at, tree in there:
            chances, gains = house[2][at][tree[0]]
            pays = [pay + counted * chance * number(gain) for pay, gain in zip(pays, gains)]
            later.extend((chance * number(each), to, tree[1][marks[to]]) for to, each in chances)
        there = later
        counted *= number(house[0])
    return pays


class DimTest(unittest.TestCase):
    def test_examples(self):
        self.assertEqual(
            [is_dim(DUSK), is_dim((DUSK[0], (0, 1, 1, 1))), is_dim((DUSK[0], (0, 0, 2, 2))),
             is_tree(DUSK, 0, 1, (2, ((), ()))), is_tree(DUSK, 1, 1, (1, ((), ())))],
            [True, False, False, True, False],
        )

    def test_marks(self):
        house = (HALF, 1, (((((0, ONE),), (ONE,)),),) * 4)
        for marks in product((-1, 0, 1, 2, 3, True, None, "0", (0,)), repeat=2):
            for rest in ((0, 1), (0, 0), (2, 1)):
                self.assertIs(is_dim((house, marks + rest)), is_dim_too((house, marks + rest)), marks)
        for marks in ((), (0,), (0, 0, 0), (0,) * 5, [0] * 4, None, 0, "0000", {0: 0}):
            self.assertIs(is_dim((house, marks)), False)
        self.assertIs(is_dim((house, (0, 1, 2, 2))), True)
        self.assertIs(is_dim((house, (2, 1, 0, 0))), True)
        self.assertIs(is_dim((house, (1, 1, 2, 2))), False)
        self.assertIs(is_dim((house, (0, 1, 2, 3))), False)

    def test_unlike_numbers_of_deeds(self):
        self.assertIs(is_dim((SHOP, (0, 0))), False)
        self.assertIs(is_dim((SHOP, (0, 1))), True)
        self.assertIs(is_dim((SHOP, (1, 0))), True)
        for seed in range(40):
            source = random.Random(seed)
            house = draw_house(seed, 4, 2, 1)
            value = (house, tuple(source.randrange(3) for _ in range(4)))
            self.assertIs(is_dim(value), is_dim_too(value))

    def test_whatever_it_is(self):
        for value in [*strange_values(), SHOP, (SHOP,), (SHOP, (0, 1), None), [SHOP, (0, 1)], ((ONE, *SHOP[1:]), (0, 1))]:
            self.assertIs(is_dim(value), False, value)
        for value in [*bent(DUSK, 2), *bent((SHOP, (1, 0)))]:
            self.assertIs(is_dim(value), is_dim_too(value), value)


class TreeTest(unittest.TestCase):
    def test_how_many_there_are(self):
        for seed in range(8):
            dim = draw_dim(seed, 4, 2, 1 + seed % 3)
            for many in range(3):
                for mark in range(max(dim[1]) + 1):
                    trees = all_trees(dim, mark, many)
                    self.assertTrue(all(is_tree(dim, mark, many, tree) for tree in trees))
                    self.assertFalse(any(is_tree(dim, mark, many + 1, tree) for tree in trees))

    def test_bent_at_any_depth(self):
        for seed in range(6):
            dim = draw_dim(seed, 4, 3, 1 + seed % 3)
            source = random.Random(seed)
            for many in range(5):
                for mark in range(max(dim[1]) + 1):
                    tree = draw_tree(source, dim, mark, many)
                    for value in [tree, *list(bent(tree))[:400], *strange_values()]:
                        self.assertIs(is_tree(dim, mark, many, value), is_tree_too(dim, mark, many, value), value)
                lookout = tuple(draw_tree(source, dim, mark, many) for mark in range(max(dim[1]) + 1))
                for value in [lookout, *list(bent(lookout))[:400], *strange_values()]:
                    self.assertIs(is_lookout(dim, many, value), is_lookout_too(dim, many, value), value)

    def test_from_0_to_4_steps(self):
        for many in range(5):
            tree = ()
            for _ in range(many):
                tree = (0, (tree, tree))
            self.assertIs(is_tree(DUSK, 0, many, tree), True)
            self.assertIs(is_lookout(DUSK, many, (tree, tree)), True)
            self.assertIs(is_lookout(DUSK, many, (tree,)), False)
            self.assertIs(is_lookout(DUSK, many, (tree,) * 3), False)
        for wrong in (-1, 5, True, None, "2", 10 ** 399):
            for call in (
                lambda: is_tree(DUSK, 0, wrong, ()), lambda: is_lookout(DUSK, wrong, ()),
                lambda: row_of(DUSK, (ONE,), 0, wrong, ()), lambda: lookout_pays(DUSK, EVEN, wrong, ()),
            ):
                with self.assertRaises(InvalidNumber) as caught:
                    call()
                self.assertIs(caught.exception.given, wrong)
        for wrong in (-1, 2, True, None, "0", (0,)):
            for call in (
                lambda: is_tree(DUSK, wrong, 9, ()), lambda: row_of(DUSK, (ONE,), wrong, 9, ()),
                lambda: behind(DUSK, wrong, None, None),
            ):
                with self.assertRaises(InvalidNumber) as caught:
                    call()
                self.assertIs(caught.exception.given, wrong)


class HoldTest(unittest.TestCase):
    def test_examples(self):
        self.assertEqual(holds_of(DUSK, EVEN), (EVEN, (NIL,) * 4))
        self.assertEqual(behind(DUSK, 0, EVEN, 2), ((NIL,) * 4, (NIL, NIL, HALF, HALF)))

    def test_holds_of_starts(self):
        for seed in range(30):
            dim = draw_dim(seed, 5, 2, 1 + seed % 3)
            start = draw_start(seed, dim[0])
            told = holds_of(dim, start)
            self.assertEqual(len(told), max(dim[1]) + 1)
            for mark, hold in enumerate(told):
                self.assertEqual(hold, tuple(each if own == mark else NIL for each, own in zip(start, dim[1])))

    def test_behind_deeds(self):
        for seed in range(40):
            dim = draw_dim(seed, 5, 3, 1 + seed % 3)
            source = random.Random(seed)
            for mark in range(max(dim[1]) + 1):
                drawn = draw_row(source, 5, 0)
                hold = tuple(each if own == mark else NIL for each, own in zip(drawn, dim[1]))
                for deed in range(len(dim[0][2][dim[1].index(mark)])):
                    sums = [Fraction(0)] * 5
                    for at, own in enumerate(dim[1]):
                        if own == mark:
                            for to, chance in dim[0][2][at][deed][0]:
                                sums[to] += number(hold[at]) * number(chance)
                    told = behind(dim, mark, hold, deed)
                    for other, each in enumerate(told):
                        self.assertTrue(all(is_plain_fraction(one) for one in each))
                        self.assertEqual(row(each), [one if own == other else 0 for one, own in zip(sums, dim[1])])
                    # The sum of all numbers stays.
                    self.assertEqual(sum(sum(row(each)) for each in told), sum(row(hold)))

    def test_what_is_no_hold(self):
        for wrong, index in (
            (None, None), (EVEN[:3], None), (EVEN + (NIL,), None), (list(EVEN), None), ("none", None), (5, None), ((), None),
            ((None,) * 4, 0), ((HALF, (2, 4), NIL, NIL), 1), (((-1, 2), ONE, NIL, NIL), 0), ((HALF, HALF, NIL, 0), 3),
            ((HALF, HALF, HALF, NIL), 2), ((HALF, HALF, NIL, HALF), 3), ((NIL, NIL, ONE, None), 2), ((HALF, None, ONE, NIL), 1),
            ((HALF, (True, 2), NIL, NIL), 1), ((NIL, NIL, NIL, (0, 2)), 3), ((NIL, NIL, (-1, 2), NIL), 2),
        ):
            with self.assertRaises(InvalidHold, msg=wrong) as caught:
                behind(DUSK, 0, wrong, 9)
            self.assertEqual(caught.exception.index, index, wrong)
        with self.assertRaises(InvalidHold) as caught:
            behind(DUSK, 1, EVEN, 0)
        self.assertEqual(caught.exception.index, 0)
        self.assertEqual(behind(DUSK, 1, (NIL, NIL, (7, 2), TWO), 0)[1], (NIL, NIL, (7, 2), TWO))
        for mark, wrong in ((0, 3), (1, 1), (0, -1), (0, True), (0, None), (0, "1")):
            with self.assertRaises(InvalidNumber) as caught:
                behind(DUSK, mark, (NIL,) * 4, wrong)
            self.assertIs(caught.exception.given, wrong)


class RowTest(unittest.TestCase):
    def test_examples(self):
        self.assertEqual(row_of(DUSK, (ONE,), 0, 2, LOOK), (ONE, ONE))
        self.assertEqual(lookout_pays(DUSK, EVEN, 2, (LOOK, (0, LOOK[1]))), (ONE,))

    def test_beside_the_told_sums(self):
        for seed in range(40):
            dim = draw_dim(seed, 5, 3, 1 + seed % 3, 1 + seed % 4)
            source = random.Random(seed)
            weights = draw_row(source, dim[0][1], -3, 3)
            many = seed % 5
            for mark in range(max(dim[1]) + 1):
                tree = draw_tree(source, dim, mark, many)
                told = row_of(dim, weights, mark, many, tree)
                stands = [at for at, own in enumerate(dim[1]) if own == mark]
                self.assertIs(type(told), tuple)
                self.assertEqual(row(told), [tree_number(dim, weights, tree, at) for at in stands])
                self.assertTrue(all(is_plain_fraction(each) for each in told))

    def test_pays_of_lookouts(self):
        for seed in range(40):
            dim = draw_dim(seed, 5, 3, 1 + seed % 3, 1 + seed % 4)
            source = random.Random(seed)
            many = seed % 5
            start = draw_start(seed, dim[0])
            lookout = tuple(draw_tree(source, dim, mark, many) for mark in range(max(dim[1]) + 1))
            told = lookout_pays(dim, start, many, lookout)
            self.assertIs(type(told), tuple)
            self.assertEqual(row(told), gone(dim, start, many, lookout))

    def test_no_steps(self):
        self.assertEqual(row_of(DUSK, (ONE,), 1, 0, ()), (NIL, NIL))
        self.assertEqual(lookout_pays((COIN, (0,)), (ONE,), 0, ((),)), (NIL, NIL))

    def test_errors_in_order(self):
        start = EVEN
        right = (LOOK, (0, LOOK[1]))
        for call, arguments, kind, told in (
            (holds_of, (SHOP, None), InvalidDim, SHOP), (holds_of, (DUSK, (ONE,)), InvalidStart, None),
            (holds_of, (DUSK, (HALF, QUARTER, NIL, NIL)), InvalidStart, None), (is_tree, (None, 9, 9, 9), InvalidDim, None),
            (is_lookout, (DUSK[0], 9, 9), InvalidDim, DUSK[0]), (behind, (5, 5, 5, 5), InvalidDim, 5),
            (row_of, ((), 1, 1, 1, 1), InvalidDim, ()), (row_of, (DUSK, (), 9, 9, 9), InvalidWeights, None),
            (row_of, (DUSK, (1,), 9, 9, 9), InvalidWeights, 0), (row_of, (DUSK, (ONE,), 9, 8, 7), InvalidNumber, 9),
            (row_of, (DUSK, (ONE,), 0, 8, 7), InvalidNumber, 8), (row_of, (DUSK, (ONE,), 0, 1, LOOK), InvalidTree, LOOK),
            (row_of, (DUSK, (ONE,), 1, 2, LOOK), InvalidTree, LOOK), (row_of, (DUSK, (ONE,), 0, 2, None), InvalidTree, None),
            (lookout_pays, (DUSK, (HALF, 1, NIL, NIL), 9, 9), InvalidStart, 1), (lookout_pays, (DUSK, start, 5, 9), InvalidNumber, 5),
            (lookout_pays, (DUSK, start, 1, right), InvalidLookout, right), (lookout_pays, (DUSK, start, 2, LOOK), InvalidLookout, LOOK),
            (lookout_pays, (DUSK, start, 2, right[::-1]), InvalidLookout, right[::-1]),
        ):
            with self.assertRaises(kind, msg=arguments) as caught:
                call(*arguments)
            error = caught.exception
            self.assertEqual(getattr(error, "given", getattr(error, "index", None)), told, arguments)

    def test_numbers_of_some_hundred_figures(self):
        dim = ((HALF, 1, (((((0, (1, 10 ** 390)), (1, (10 ** 390 - 1, 10 ** 390))), (HUGE,)),), ((((1, ONE),), (ONE,)),))), (0, 0))
        tree = (0, ((0, ((),)),))
        self.assertEqual(row(row_of(dim, (HUGE,), 0, 2, tree)), [tree_number(dim, (HUGE,), tree, at) for at in (0, 1)])
        self.assertEqual(behind(dim, 0, (HUGE, NIL), 0)[0][0], pair(number(HUGE) / 10 ** 390))


if __name__ == "__main__":
    unittest.main()
