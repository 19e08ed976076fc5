"""Points [33] to [35] and sightbest.py."""

import random
import unittest
from fractions import Fraction
from itertools import product

from deedhouses.errors import InvalidHold, InvalidNumber, InvalidRow, InvalidRows, TooMany
from deedhouses.sightbest import best_left, best_lookout, parted, parting, rows_left
from deedhouses.sights import is_lookout, is_tree, lookout_pays, row_of
from deedhouses.timed import timed_worths
from tests.helpers import (
    HALF, HUGE, NIL, ONE, QUARTER, all_trees, are_chances_of_one, bent, deeds_of_mark, draw_chances, draw_dim, draw_odds,
    draw_row, draw_start, is_plain_fraction, number, pair, row, tree_number,
)
from tests.test_sights import DUSK

LITTLE = Fraction(1, 10 ** 9)


def stands_of(dim, mark):
    return [at for at, own in enumerate(dim[1]) if own == mark]


def draw_hold(source, dim, mark):
    return tuple(each if own == mark else NIL for each, own in zip(draw_row(source, len(dim[1]), 0), dim[1]))


def brings(dim, weights, tree, hold):
    """What a tree brings from a hold."""
    return sum(number(each) * tree_number(dim, weights, tree, at) for at, each in enumerate(hold) if each != NIL)


def small_cases(many):
    """Small dim houses with weights and so few steps that all trees can be looked at."""
    for seed in range(many):
        marks = 1 + seed % 3
        deeds = 4 - marks
        dim = draw_dim(seed, 3 + seed % 2, deeds, marks, 1 + seed % 2)
        weights = draw_row(random.Random(seed), dim[0][1], -3, 3)
        yield seed, dim, weights, {1: 3, 2: 3, 3: 4}[marks] if seed % 4 == 0 else 2


class BestTest(unittest.TestCase):
    def test_examples(self):
        self.assertEqual(best_left(DUSK, (ONE,), 0, 1, (HALF, QUARTER, NIL, NIL)), ((1, 2), (0, ((), ()))))
        self.assertEqual(best_lookout(DUSK, (HALF, HALF, NIL, NIL), (ONE,), 2)[0], (1, 1))
        self.assertEqual(best_lookout(DUSK, (ONE, NIL, NIL, NIL), (ONE,), 2)[0], (3, 2))

    def test_beside_all_trees(self):
        for seed, dim, weights, most in small_cases(40):
            source = random.Random(seed)
            for many in range(most + 1):
                for mark in range(max(dim[1]) + 1):
                    hold = draw_hold(source, dim, mark)
                    told, tree = best_left(dim, weights, mark, many, hold)
                    self.assertTrue(is_plain_fraction(told))
                    self.assertIs(is_tree(dim, mark, many, tree), True)
                    self.assertEqual(brings(dim, weights, tree, hold), number(told))
                    trees = all_trees(dim, mark, many)
                    self.assertEqual(number(told), max(brings(dim, weights, each, hold) for each in trees))

    def test_best_lookouts_beside_all_trees(self):
        for seed, dim, weights, most in small_cases(30):
            start = draw_start(seed, dim[0])
            for many in range(most + 1):
                told, lookout = best_lookout(dim, start, weights, many)
                self.assertIs(is_lookout(dim, many, lookout), True)
                pays = row(lookout_pays(dim, start, many, lookout))
                self.assertEqual(number(told), sum(number(weight) * pay for weight, pay in zip(weights, pays)))
                greatest = Fraction(0)
                for mark in range(max(dim[1]) + 1):
                    hold = tuple(each if own == mark else NIL for each, own in zip(start, dim[1]))
                    greatest += max(brings(dim, weights, tree, hold) for tree in all_trees(dim, mark, many))
                self.assertEqual(number(told), greatest)

    def test_in_proportion_to_the_hold(self):
        for seed in range(20):
            dim = draw_dim(seed, 4, 3, 1 + seed % 3)
            hold = draw_hold(random.Random(seed), dim, 0)
            told = number(best_left(dim, (ONE,), 0, 3, hold)[0])
            for factor in (Fraction(3), Fraction(1, 7), Fraction(0)):
                other = tuple(pair(number(each) * factor) for each in hold)
                self.assertEqual(number(best_left(dim, (ONE,), 0, 3, other)[0]), told * factor)

    def test_a_hold_of_noughts_and_no_steps(self):
        for many in range(5):
            for mark in (0, 1):
                told, tree = best_left(DUSK, (ONE,), mark, many, (NIL,) * 4)
                self.assertEqual(told, NIL)
                self.assertIs(is_tree(DUSK, mark, many, tree), True)
        self.assertEqual(best_left(DUSK, (ONE,), 0, 0, (HALF, HALF, NIL, NIL)), (NIL, ()))
        self.assertEqual(best_lookout(DUSK, (HALF, HALF, NIL, NIL), (ONE,), 0), (NIL, ((), ())))

    def test_four_steps_beside_the_told_recursion(self):
        def told_best(dim, weights, mark, many, hold):
            if many == 0 or not any(hold):
                return Fraction(0)
            house, marks = dim
            found = []
            for deed in range(len(house[2][marks.index(mark)])):
                own, later = Fraction(0), [Fraction(0)] * len(marks)
                for at, each in enumerate(hold):
                    if each:
                        chances, gains = house[2][at][deed]
                        own += each * sum(number(weight) * number(gain) for weight, gain in zip(weights, gains))
                        for to, chance in chances:
                            later[to] += each * number(chance)
                parts = [[each if own_mark == other else 0 for each, own_mark in zip(later, marks)] for other in range(max(marks) + 1)]
                rest = sum(told_best(dim, weights, other, many - 1, part) for other, part in enumerate(parts))
                found.append(own + number(house[0]) * rest)
            return max(found)

        for seed in range(6):
            dim = draw_dim(seed, 6, 3, 1 + seed % 3, 2)
            hold = draw_hold(random.Random(seed), dim, 0)
            weights = draw_row(random.Random(seed), 2, -2, 3)
            told, tree = best_left(dim, weights, 0, 4, hold)
            self.assertEqual(number(told), told_best(dim, weights, 0, 4, row(hold)))
            self.assertEqual(number(told), brings(dim, weights, tree, hold))

    def test_numbers_of_some_hundred_figures(self):
        dim = ((HALF, 1, (((((0, (1, 10 ** 390)), (1, (10 ** 390 - 1, 10 ** 390))), (HUGE,)),), ((((1, ONE),), (ONE,)),))), (0, 0))
        told, tree = best_left(dim, (HUGE,), 0, 2, (HUGE, HALF))
        self.assertEqual(number(told), brings(dim, (HUGE,), tree, (HUGE, HALF)))
        self.assertEqual([len(each) for each in rows_left(dim, (told,), 3)], [1])


class SeenTest(unittest.TestCase):
    """[35]: what is not seen costs."""

    def test_beside_worths_with_steps_left(self):
        seen = 0
        for seed in range(30):
            dim = draw_dim(seed, 4, 3, 1 + seed % 3, 1, share=(4, 5))
            start = draw_start(seed, dim[0])
            for many in range(5):
                told = number(best_lookout(dim, start, (ONE,), many)[0])
                worths = row(timed_worths(dim[0], (ONE,), many)[many])
                full = sum(chance * worth for chance, worth in zip(row(start), worths))
                self.assertLessEqual(told, full)
                seen += told < full
        self.assertGreater(seen, 20)

    def test_all_stands_seen(self):
        for seed in range(30):
            stands = 1 + seed % 3
            dim = draw_dim(seed, stands, 3, stands, 1)
            start = draw_start(seed, dim[0])
            for many in range(5):
                worths = row(timed_worths(dim[0], (ONE,), many)[many])
                full = sum(chance * worth for chance, worth in zip(row(start), worths))
                self.assertEqual(number(best_lookout(dim, start, (ONE,), many)[0]), full)

    def test_finer_sights(self):
        seen = 0
        for seed in range(30):
            source = random.Random(seed)
            stands = tuple(tuple((draw_chances(source, 5), draw_row(source, 1)) for _ in range(2)) for _ in range(5))
            house = ((4, 5), 1, stands)
            start = draw_start(seed, house)
            fine = [0, 1, 2, source.randrange(3), source.randrange(3)]
            source.shuffle(fine)
            last = [number(best_lookout((house, tuple(fine)), start, (ONE,), many)[0]) for many in range(4)]
            for joined in ((0, 0, 1), (0, 1, 0), (0, 1, 1), (0, 0, 0)):
                coarse = tuple(joined[mark] for mark in fine)
                told = [number(best_lookout((house, coarse), start, (ONE,), many)[0]) for many in range(4)]
                self.assertTrue(all(one <= two for one, two in zip(told, last)))
                blind = [number(best_lookout((house, (0,) * 5), start, (ONE,), many)[0]) for many in range(4)]
                self.assertTrue(all(one <= two for one, two in zip(blind, told)))
                seen += told != last
        self.assertGreater(seen, 20)


class RowsTest(unittest.TestCase):
    def test_examples(self):
        self.assertEqual(
            [[[each[0] for each in rows] for rows in rows_left(DUSK, (ONE,), many)] for many in (1, 2)],
            [[[((0, 1), (1, 1)), ((1, 1), (0, 1))], [((2, 1), (2, 1))]],
             [[((0, 1), (3, 2)), ((1, 1), (1, 1)), ((3, 2), (0, 1))], [((3, 1), (3, 1))]]],
        )

    def all_rows(self, dim, weights, mark, many):
        found = {}
        for tree in all_trees(dim, mark, many):
            found[tuple(tree_number(dim, weights, tree, at) for at in stands_of(dim, mark))] = tree
        return found

    def looked_at(self, dim, weights, many):
        """The rows left, by the document's own conditions beside the rows of all trees."""
        told = rows_left(dim, weights, many)
        self.assertEqual(len(told), max(dim[1]) + 1)
        for mark, pairs in enumerate(told):
            rows = [tuple(row(each)) for each, _ in pairs]
            self.assertEqual(rows, sorted(set(rows)))
            for own, tree in pairs:
                self.assertIs(is_tree(dim, mark, many, tree), True)
                self.assertEqual(row_of(dim, weights, mark, many, tree), own)
            every = self.all_rows(dim, weights, mark, many)
            self.assertLessEqual(set(rows), set(every))
            for each in every:
                others = [other for other in (every if each in rows else rows) if other != each]
                self.parted_right([tuple(pair(one) for one in other) for other in others], tuple(pair(one) for one in each), each in rows)
        return told

    def parted_right(self, rows, own, is_above):
        """The row is above all others from some chances, or a mean of the others is nowhere below it."""
        if not rows:
            return
        told, numbers = parting(rows, own)
        self.assertEqual(told, "above" if is_above else "mixed")
        if is_above:
            sums = [sum(chance * each for chance, each in zip(row(numbers), row(other))) for other in (*rows, own)]
            self.assertGreater(sums[-1], max(sums[:-1]))
        else:
            mean = [sum(odd * number(other[at]) for odd, other in zip(row(numbers), rows)) for at in range(len(own))]
            self.assertTrue(all(one >= two for one, two in zip(mean, row(own))))

    def test_beside_all_trees(self):
        lengths = []
        for seed, dim, weights, most in small_cases(45):
            for many in range(min(most, 2) + 1):
                told = self.looked_at(dim, weights, many)
                lengths.extend(len(pairs) for pairs in told)
        self.assertGreater(max(lengths), 4)

    def test_two_stands_by_all_crossings(self):
        """A mark of two stands: rows are lines over one number, and between two crossings one is the greatest."""
        for seed in range(25):
            dim = draw_dim(seed, 2, 4, 1, 1, share=(4, 5))
            for many in (1, 2, 3):
                lines = list(self.all_rows(dim, (ONE,), 0, many))
                cuts = {Fraction(0), Fraction(1)}
                for one, two in product(lines, lines):
                    slope = (one[1] - one[0]) - (two[1] - two[0])
                    if slope != 0 and 0 < (two[0] - one[0]) / slope < 1:
                        cuts.add((two[0] - one[0]) / slope)
                found, edges = set(), sorted(cuts)
                for low, high in zip(edges, edges[1:]):
                    at = (low + high) / 2
                    found.add(max(lines, key=lambda each: each[0] + at * (each[1] - each[0])))
                self.assertEqual([tuple(row(each)) for each, _ in rows_left(dim, (ONE,), many)[0]], sorted(found))

    def test_one_stand_of_a_mark(self):
        for seed in range(20):
            stands = 1 + seed % 3
            dim = draw_dim(seed, stands, 3, stands, 1)
            for many in range(4):
                worths = timed_worths(dim[0], (ONE,), many)[many]
                for mark, pairs in enumerate(rows_left(dim, (ONE,), many)):
                    self.assertEqual([each for each, _ in pairs], [(worths[dim[1].index(mark)],)])

    def test_the_best_is_the_greatest_of_them(self):
        for seed in range(30):
            dim = draw_dim(seed, 6, 3, 1 + seed % 3, 2, share=(9, 10))
            weights = draw_row(random.Random(seed), 2, -2, 2)
            source = random.Random(seed)
            for many in range(4):
                try:
                    told = rows_left(dim, weights, many)
                except TooMany:
                    break
                for mark, pairs in enumerate(told):
                    for _ in range(3):
                        hold = draw_hold(source, dim, mark)
                        own = [number(hold[at]) for at in stands_of(dim, mark)]
                        sums = [sum(one * two for one, two in zip(own, row(each))) for each, _ in pairs]
                        self.assertEqual(max(sums), number(best_left(dim, weights, mark, many, hold)[0]))

    def test_no_steps(self):
        self.assertEqual(rows_left(DUSK, (ONE,), 0), ((((NIL, NIL), ()),), (((NIL, NIL), ()),)))

    def test_weights_of_nought(self):
        for many in range(5):
            self.assertEqual([[each for each, _ in rows] for rows in rows_left(DUSK, (NIL,), many)], [[(NIL, NIL)]] * 2)

    def test_ascending_as_numbers(self):
        low, high = ((1, 3),), ((2, 5),)
        here, there = ((0, ONE),), ((1, ONE),)
        house = (HALF, 1, (((here, low), (here, high)), ((there, high), (there, low))))
        self.assertEqual([each for each, _ in rows_left((house, (0, 0)), (ONE,), 1)[0]], [((1, 3), (2, 5)), ((2, 5), (1, 3))])

    def sums_ahead(self, dim, many):
        """How many sums there are for one step more, mark by mark."""
        lengths = 1
        for pairs in rows_left(dim, (ONE,), many):
            lengths *= len(pairs)
        return [deeds_of_mark(dim, mark) * lengths for mark in range(max(dim[1]) + 1)]

    def test_too_many(self):
        seen = unlike = 0
        marks = (0, 0, 0, 1, 1, 1, 2, 2)
        for seed in range(70):
            source = random.Random(seed)
            deeds = [source.randint(2, 4) for _ in range(3)]
            stands = [[(draw_chances(source, 8, 3), draw_row(source, 1)) for _ in range(deeds[mark])] for mark in marks]
            dim = (HALF, 1, tuple(tuple(stand) for stand in stands)), marks
            for many in range(1, 4):
                sums = self.sums_ahead(dim, many)
                above = [each for each in sums if each > 300]
                if not above:
                    continue
                seen += 1
                unlike += sums[0] != above[0] or above[0] != max(sums)
                for later in range(many + 1, 5):
                    with self.assertRaises(TooMany) as caught:
                        rows_left(dim, (ONE,), later)
                    self.assertEqual(caught.exception.given, above[0])
                break
        self.assertGreater(seen, 5)
        self.assertGreater(unlike, 2)

    def test_300_sums_are_let(self):
        for seed, stands, many, told in ((834, 5 + 834 % 4, 3, [300, 300]), (1818, 5 + 1818 % 4, 3, [300, 225])):
            dim = draw_dim(seed, stands, 4, 2, 1)
            self.assertEqual(self.sums_ahead(dim, many), told)
            self.assertEqual(len(rows_left(dim, (ONE,), many + 1)), 2)
        for seed, many, told, given in ((307, 3, [77, 154, 308], 308), (931, 3, [231, 308, 308], 308), (954, 2, [312, 312], 312)):
            dim = draw_dim(seed, 5 + seed % 4, 4, len(told), 1)
            self.assertEqual(self.sums_ahead(dim, many), told)
            with self.assertRaises(TooMany) as caught:
                rows_left(dim, (ONE,), many + 1)
            self.assertEqual(caught.exception.given, given)


class PartedTest(unittest.TestCase):
    def looked_at(self, rows, own):
        told = parted(rows, own)
        self.assertEqual(len(told), 2)
        if told[0] == "above":
            self.assertTrue(are_chances_of_one(told[1], len(own)))
            sums = [sum(chance * each for chance, each in zip(row(told[1]), row(other))) for other in (*rows, own)]
            self.assertGreater(sums[-1], max(sums[:-1]))
            return True
        self.assertEqual(told[0], "mixed")
        self.assertTrue(are_chances_of_one(told[1], len(rows)))
        mean = [sum(odd * number(other[at]) for odd, other in zip(row(told[1]), rows)) for at in range(len(own))]
        self.assertTrue(all(one >= two for one, two in zip(mean, row(own))))
        return False

    def test_examples(self):
        both = ((NIL, (3, 2)), ((3, 2), NIL))
        self.assertEqual([parted(both, (HALF, HALF))[0], parted(both, (ONE, ONE))[0]], ["mixed", "above"])
        self.assertEqual(parted(((HALF,),), (HALF,)), ("mixed", ((1, 1),)))

    def test_just_at_a_mean_and_beside_it(self):
        seen = [0, 0]
        for seed in range(120):
            source = random.Random(seed)
            wide, many = 1 + seed % 8, 1 + seed % 5
            rows = tuple(draw_row(source, wide) for _ in range(many))
            odds = draw_odds(source, many)
            mean = [sum(number(odd) * number(each[at]) for odd, each in zip(odds, rows)) for at in range(wide)]
            self.assertFalse(self.looked_at(rows, tuple(pair(each) for each in mean)))
            at = source.randrange(wide)
            less = [each - (LITTLE if place == at else 0) for place, each in enumerate(mean)]
            self.assertFalse(self.looked_at(rows, tuple(pair(each) for each in less)))
            more = [each + (LITTLE if place == at else 0) for place, each in enumerate(mean)]
            seen[self.looked_at(rows, tuple(pair(each) for each in more))] += 1
            seen[self.looked_at(rows, draw_row(source, wide))] += 1
            greatest = tuple(pair(max(number(each[place]) for each in rows) + LITTLE) for place in range(wide))
            self.assertTrue(self.looked_at(rows, greatest))
        self.assertGreater(min(seen), 30)

    def test_above_at_one_place_alone(self):
        rows = ((ONE, NIL, NIL), (NIL, ONE, NIL), (NIL, NIL, ONE))
        for at in range(3):
            own = tuple(pair(1 + LITTLE) if place == at else (-9, 1) for place in range(3))
            self.assertTrue(self.looked_at(rows, own))
        self.assertFalse(self.looked_at(rows, ((1, 3),) * 3))
        self.assertTrue(self.looked_at(rows, ((1, 3), (1, 3), pair(Fraction(1, 3) + LITTLE))))

    def test_60_rows_of_8_numbers(self):
        source = random.Random(3)
        rows = tuple(draw_row(source, 8) for _ in range(60))
        self.assertIn(self.looked_at(rows, draw_row(source, 8)), (True, False))
        self.assertTrue(self.looked_at(rows, ((7, 1),) * 8))
        self.assertFalse(self.looked_at(rows, rows[31]))

    def test_what_are_no_rows(self):
        one, two = (HALF, NIL), (ONE, ONE)
        for wrong, index in (
            (None, None), ((), None), ([one], None), ("", None), (5, None), ({}, None), ((one,) * 61, None), ((None,) * 61, None),
            ((None,), 0), (((),), 0), (((NIL,) * 9,), 0), ((list(one),), 0), (((1, 2),), 0), (((HALF, None),), 0),
            (((HALF, (2, 4)),), 0), (((HALF, (True, 1)),), 0), ((one, (HALF,)), 1), ((one, one + (NIL,)), 1), ((one, two, None), 2),
            ((one, two, (HALF, 0)), 2), ((one, (), None), 1), ((one,) * 59 + ((HALF,),), 59), ((HALF,), 0), (((HALF,), one), 1),
        ):
            with self.assertRaises(InvalidRows, msg=wrong) as caught:
                parted(wrong, None)
            self.assertEqual(caught.exception.index, index, wrong)
        parted((one,) * 60, two)
        parted(((NIL,) * 8,), (ONE,) * 8)

    def test_what_is_no_row(self):
        for wrong in (None, (), (HALF,), (HALF,) * 3, [HALF, HALF], (1, 2), (HALF, None), (HALF, (2, 2)), "ab", 5):
            with self.assertRaises(InvalidRow) as caught:
                parted(((HALF, NIL),), wrong)
            self.assertIs(caught.exception.given, wrong)
        for value in bent((HALF, NIL)):
            is_right = type(value) is tuple and len(value) == 2 and all(is_plain_fraction(each) for each in value)
            if is_right:
                self.looked_at(((HALF, NIL),), value)
            else:
                with self.assertRaises(InvalidRow):
                    parted(((HALF, NIL),), value)

    def test_numbers_of_some_hundred_figures(self):
        rows = ((HUGE, NIL), (NIL, HUGE))
        self.assertFalse(self.looked_at(rows, (pair(number(HUGE) / 3), pair(2 * number(HUGE) / 3))))
        self.assertTrue(self.looked_at(rows, (pair(number(HUGE) / 3), pair(2 * number(HUGE) / 3 + Fraction(1, 10 ** 398)))))


class ErrorsTest(unittest.TestCase):
    def test_in_order(self):
        hold = (HALF, HALF, NIL, NIL)
        for call, arguments, kind, told in (
            (best_left, (DUSK, (ONE,), 2, 9, None), InvalidNumber, 2), (best_left, (DUSK, (ONE,), 1, 5, None), InvalidNumber, 5),
            (best_left, (DUSK, (ONE,), 1, 4, hold), InvalidHold, 0), (best_left, (DUSK, (ONE,), 1, 4, None), InvalidHold, None),
            (best_lookout, (DUSK, hold, (ONE,), -1), InvalidNumber, -1), (rows_left, (DUSK, (ONE,), True), InvalidNumber, True),
        ):
            with self.assertRaises(kind, msg=arguments) as caught:
                call(*arguments)
            error = caught.exception
            self.assertEqual(getattr(error, "given", getattr(error, "index", None)), told)


if __name__ == "__main__":
    unittest.main()
