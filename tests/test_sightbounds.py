"""Point [36] and sightbounds.py."""

import random
import unittest
from fractions import Fraction
from itertools import product

from deedhouses.errors import InvalidBounds, InvalidDim, InvalidMix, InvalidNumber, InvalidStart
from deedhouses.sightbest import best_lookout
from deedhouses.sightbounds import is_sight_mix, sight_keep, sight_mix_pays
from deedhouses.sights import is_lookout, lookout_pays
from tests.helpers import (
    COIN, HALF, HUGE, NIL, ONE, QUARTER, SHOP, THREE, TWO, all_trees, bent, draw_dim, draw_row, draw_start, is_chance,
    is_plain_fraction, is_tree_too, number, pair, row, strange_values, tree_number,
)

DARK = (COIN, (0,))
ZERO, FIRST = (0, ((),)), (1, ((),))
LITTLE = Fraction(1, 10 ** 9)


def is_mix_too(dim, many, value):
    """A mix of lookouts by [36]'s words."""
    if type(value) is not tuple or not all(type(part) is tuple and len(part) == 2 for part in value):
        return False
    if not all(is_chance(chance) and chance[0] > 0 for chance, _ in value) or sum(number(chance) for chance, _ in value) != 1:
        return False
    for _, lookout in value:
        if type(lookout) is not tuple or len(lookout) != max(dim[1]) + 1:
            return False
        if not all(is_tree_too(dim, mark, many, tree) for mark, tree in enumerate(lookout)):
            return False
    lookouts = [lookout for _, lookout in value]
    return lookouts == sorted(lookouts) and len(lookouts) == len(set(lookouts))


def pays_too(dim, start, lookout):
    """The pays of a lookout by the told sums."""
    house = dim[0]
    alone = [tuple(ONE if at == pay else NIL for at in range(house[1])) for pay in range(house[1])]
    return [
        sum(number(chance) * tree_number(dim, weights, lookout[dim[1][at]], at) for at, chance in enumerate(start))
        for weights in alone
    ]


def mean_too(dim, start, mix):
    rows = [(number(chance), pays_too(dim, start, lookout)) for chance, lookout in mix]
    return [sum(chance * pays[at] for chance, pays in rows) for at in range(dim[0][1])]


def draw_lookout(source, dim, many):
    def tree(mark, left):
        if left == 0:
            return ()
        deeds = len(dim[0][2][dim[1].index(mark)])
        return source.randrange(deeds), tuple(tree(other, left - 1) for other in range(max(dim[1]) + 1))

    return tuple(tree(mark, many) for mark in range(max(dim[1]) + 1))


def draw_mix(source, dim, many, most):
    lookouts = sorted({draw_lookout(source, dim, many) for _ in range(most)})
    parts = [source.randint(1, 5) for _ in lookouts]
    return tuple((pair(Fraction(part, sum(parts))), lookout) for part, lookout in zip(parts, lookouts))


def drawn_cases(many):
    for seed in range(many):
        dim = draw_dim(seed, 4, 3, 1 + seed % 3, 1 + seed % 4, share=(HALF, (9, 10), NIL, (2, 3))[seed % 4])
        yield seed, random.Random(seed), dim, draw_start(seed, dim[0]), seed % 5


class MixTest(unittest.TestCase):
    def test_examples(self):
        self.assertEqual(sight_mix_pays(DARK, (ONE,), 1, ((QUARTER, (ZERO,)), ((3, 4), (FIRST,)))), ((1, 2), (3, 2)))

    def test_what_is_a_mix(self):
        self.assertIs(is_sight_mix(DARK, 1, ((HALF, (ZERO,)), (HALF, (FIRST,)))), True)
        self.assertIs(is_sight_mix(DARK, 1, ((ONE, (FIRST,)),)), True)
        self.assertIs(is_sight_mix(DARK, 0, ((ONE, ((),)),)), True)
        for wrong in (
            (), ((HALF, (ZERO,)),), ((HALF, (FIRST,)), (HALF, (ZERO,))), ((HALF, (ZERO,)), (HALF, (ZERO,))),
            ((ONE, (ZERO,)), (NIL, (FIRST,))), ((TWO, (ZERO,)), ((-1, 1), (FIRST,))), ((ONE, ZERO),), ((ONE, ((),)),),
            ((ONE, (ZERO, ZERO)),), ((ONE, ((2, ((),)),)),), [(ONE, (ZERO,))], ([ONE, (ZERO,)],), ((ONE, [ZERO]),),
            ((ONE, (ZERO,), None),), (ONE, (ZERO,)), (((2, 2), (ZERO,)),), ((ONE, ((False, ((),)),)),), ((ONE,),), (None,),
        ):
            self.assertIs(is_sight_mix(DARK, 1, wrong), False, wrong)
            with self.assertRaises(InvalidMix) as caught:
                sight_mix_pays(DARK, (ONE,), 1, wrong)
            self.assertIs(caught.exception.given, wrong)

    def test_whatever_it_is(self):
        for value in strange_values():
            self.assertIs(is_sight_mix(DARK, 1, value), False, value)
        for seed, source, dim, _, many in drawn_cases(12):
            mix = draw_mix(source, dim, min(many, 2), 3)
            self.assertIs(is_sight_mix(dim, min(many, 2), mix), True)
            for value in list(bent(mix))[:500]:
                self.assertIs(is_sight_mix(dim, min(many, 2), value), is_mix_too(dim, min(many, 2), value), value)

    def test_pays(self):
        for seed, source, dim, start, many in drawn_cases(40):
            mix = draw_mix(source, dim, many, 4)
            told = sight_mix_pays(dim, start, many, mix)
            self.assertIs(type(told), tuple)
            self.assertTrue(all(is_plain_fraction(each) for each in told))
            self.assertEqual(row(told), mean_too(dim, start, mix))


class KeepTest(unittest.TestCase):
    def test_examples(self):
        self.assertEqual(sight_keep(DARK, (ONE,), (ONE, ONE), 1), ("kept", ((HALF, (ZERO,)), (HALF, (FIRST,)))))
        self.assertEqual(sight_keep(DARK, (ONE,), (TWO, ONE), 1)[0], "not kept")
        self.assertEqual(sight_keep(DARK, (ONE,), (None, None), 0)[0], "kept")

    def asked(self, dim, start, bounds, many):
        """Looks at what is told by the document's own conditions; whether the bounds are kept."""
        told = sight_keep(dim, start, bounds, many)
        self.assertEqual(len(told), 2)
        if told[0] == "kept":
            self.assertTrue(is_mix_too(dim, many, told[1]))
            self.assertIs(is_sight_mix(dim, many, told[1]), True)
            self.assertLessEqual(len(told[1]), 1 + sum(bound is not None for bound in bounds))
            pays = mean_too(dim, start, told[1])
            self.assertTrue(all(bound is None or pay >= number(bound) for pay, bound in zip(pays, bounds)))
            return True
        self.assertEqual(told[0], "not kept")
        weights = told[1]
        self.assertEqual(len(weights), dim[0][1])
        self.assertTrue(all(is_chance(weight) for weight in weights))
        self.assertTrue(all(bound is not None or weight == NIL for weight, bound in zip(weights, bounds)))
        wanted = sum(number(weight) * number(bound) for weight, bound in zip(weights, bounds) if bound is not None)
        self.assertLess(number(best_lookout(dim, start, weights, many)[0]), wanted)
        if many < 3 and max(dim[1]) < 2:
            lots = [all_trees(dim, mark, many) for mark in range(max(dim[1]) + 1)]
            sums = [
                max(
                    sum(number(chance) * tree_number(dim, weights, tree, at) for at, chance in enumerate(start) if dim[1][at] == mark)
                    for tree in trees
                ) for mark, trees in enumerate(lots)
            ]
            self.assertLess(sum(sums), wanted)
        return False

    def test_at_the_pays_of_drawn_mixes(self):
        seen = [0, 0]
        for seed, source, dim, start, many in drawn_cases(60):
            mixes = [draw_mix(source, dim, many, most) for most in (1, 2, 4)]
            for mix in mixes:
                own = mean_too(dim, start, mix)
                self.assertTrue(self.asked(dim, start, tuple(pair(each) for each in own), many))
                less = [pair(each - LITTLE) for each in own]
                self.assertTrue(self.asked(dim, start, tuple(less), many))
                some = [each if source.random() < 0.5 else None for each in less]
                self.assertTrue(self.asked(dim, start, tuple(some), many))
                more = tuple(pair(each + LITTLE) for each in own)
                seen[self.asked(dim, start, more, many)] += 1
        self.assertGreater(min(seen), 20)

    def test_at_the_best_of_one_pay_and_a_little_above(self):
        for seed, source, dim, start, many in drawn_cases(40):
            for pay in range(dim[0][1]):
                alone = tuple(ONE if at == pay else NIL for at in range(dim[0][1]))
                greatest, lookout = best_lookout(dim, start, alone, many)
                rest = row(lookout_pays(dim, start, many, lookout))
                only = tuple(greatest if at == pay else None for at in range(dim[0][1]))
                self.assertTrue(self.asked(dim, start, only, many))
                self.assertTrue(self.asked(dim, start, tuple(pair(each) for each in rest), many))
                above = tuple(pair(number(greatest) + LITTLE) if at == pay else None for at in range(dim[0][1]))
                self.assertFalse(self.asked(dim, start, above, many))
                both = tuple(above[pay] if at == pay else pair(each) for at, each in enumerate(rest))
                self.assertFalse(self.asked(dim, start, both, many))

    def test_between_two_lookouts(self):
        # A mean of two corners is kept; a little further out along the way that parts them nothing is.
        for seed, source, dim, start, many in drawn_cases(40):
            if dim[0][1] < 2 or many == 0:
                continue
            weights = (ONE, ONE) + (NIL,) * (dim[0][1] - 2)
            greatest = number(best_lookout(dim, start, weights, many)[0])
            corners = []
            for tilt in ((100, 1), (1, 100)):
                tilted = tuple((each, 1) for each in tilt) + (NIL,) * (dim[0][1] - 2)
                corners.append(row(lookout_pays(dim, start, many, best_lookout(dim, start, tilted, many)[1])))
            mean = [(one + two) / 2 for one, two in zip(*corners)]
            bounds = tuple(pair(each) for each in mean[:2]) + (None,) * (dim[0][1] - 2)
            self.assertTrue(self.asked(dim, start, bounds, many))
            wide = (greatest - mean[0] - mean[1]) / 2 + LITTLE
            bounds = tuple(pair(each + wide) for each in mean[:2]) + (None,) * (dim[0][1] - 2)
            self.assertFalse(self.asked(dim, start, bounds, many))

    def test_no_bounds(self):
        for seed, source, dim, start, many in drawn_cases(20):
            told = sight_keep(dim, start, (None,) * dim[0][1], many)
            self.assertEqual((told[0], len(told[1])), ("kept", 1))
            self.assertIs(is_lookout(dim, many, told[1][0][1]), True)
            self.assertTrue(self.asked(dim, start, (None,) * dim[0][1], many))

    def test_no_steps(self):
        self.assertTrue(self.asked(DARK, (ONE,), (NIL, NIL), 0))
        self.assertTrue(self.asked(DARK, (ONE,), ((-1, 2), None), 0))
        self.assertFalse(self.asked(DARK, (ONE,), (NIL, QUARTER), 0))

    def test_bounds_on_a_line(self):
        for part in range(9):
            first = Fraction(part, 4)
            self.assertTrue(self.asked(DARK, (ONE,), (pair(first), pair(2 - first)), 1))
            self.assertFalse(self.asked(DARK, (ONE,), (pair(first + LITTLE), pair(2 - first)), 1))
            self.assertFalse(self.asked(DARK, (ONE,), (pair(first), pair(2 - first + LITTLE)), 1))
            self.assertTrue(self.asked(DARK, (ONE,), (pair(first), None), 1))

    def test_large_dim_houses(self):
        for seed in range(2):
            dim = draw_dim(seed + 5, 8, 4, 3, 4, share=(9, 10))
            start = draw_start(seed, dim[0])
            source = random.Random(seed)
            own = mean_too(dim, start, draw_mix(source, dim, 3, 4))
            self.assertTrue(self.asked(dim, start, tuple(pair(each) for each in own), 3))
            for more in (Fraction(1, 10), Fraction(1), Fraction(3)):
                self.assertIn(self.asked(dim, start, tuple(pair(each + more) for each in own), 3), (True, False))

    def test_numbers_of_some_hundred_figures(self):
        stay = ((0, ONE),)
        dim = ((HALF, 2, (((stay, (HUGE, NIL)), (stay, (NIL, HUGE))),)), (0,))
        third = pair(number(HUGE) / 3)
        rest = pair(number(HUGE) - number(third))
        self.assertTrue(self.asked(dim, (ONE,), (third, rest), 1))
        self.assertFalse(self.asked(dim, (ONE,), (third, pair(number(rest) + Fraction(1, 10 ** 398))), 1))

    def test_errors_in_order(self):
        start = (HALF, HALF)
        dim = (SHOP, (0, 1))
        for arguments, kind, told in (
            ((SHOP, None, None, None), InvalidDim, SHOP), ((dim, (ONE,), None, None), InvalidStart, None),
            ((dim, (HALF, QUARTER), None, None), InvalidStart, None), ((dim, start, (ONE,), 9), InvalidBounds, None),
            ((dim, start, (None, 1), 9), InvalidBounds, 1), ((dim, start, (THREE, None), 5), InvalidNumber, 5),
            ((dim, start, (THREE, None), True), InvalidNumber, True), ((dim, start, (THREE, None), -1), InvalidNumber, -1),
        ):
            with self.assertRaises(kind) as caught:
                sight_keep(*arguments)
            error = caught.exception
            self.assertEqual(getattr(error, "given", getattr(error, "index", None)), told)
        for wrong in (5, -1, None, False):
            for call in (lambda: is_sight_mix(dim, wrong, ()), lambda: sight_mix_pays(dim, start, wrong, ())):
                with self.assertRaises(InvalidNumber) as caught:
                    call()
                self.assertIs(caught.exception.given, wrong)


class DrawnTest(unittest.TestCase):
    def test_what_these_tests_stand_on(self):
        # The drawn weights' best lookout is the best of all, so that means of it part what is kept from what is not.
        dim = draw_dim(7, 3, 2, 1, 2)
        start = draw_start(7, dim[0])
        weights = draw_row(random.Random(7), 2)
        trees = [each for each in product(all_trees(dim, 0, 2))]
        greatest = max(sum(number(one) * two for one, two in zip(weights, pays_too(dim, start, each))) for each in trees)
        self.assertEqual(number(best_lookout(dim, start, weights, 2)[0]), greatest)


if __name__ == "__main__":
    unittest.main()
