"""What the modules of the interface stand on: fractions, equations, the simplex."""

import random
import unittest
from fractions import Fraction

from deedhouses.equations import solved, solved_across
from deedhouses.ratios import (
    are_odds, common_bottom, dot, is_below, is_fraction, is_row, is_within, minus, over, plus, ratio, scaled, times, total,
)
from deedhouses.tableaus import Tableau, greatest_corner
from tests.helpers import HALF, NIL, ONE, answers, bent, draw_row, is_plain_fraction, number, pair, row, strange_values


class RatiosTest(unittest.TestCase):
    def test_lowest_terms(self):
        for top in range(-12, 13):
            for bottom in [*range(-12, 0), *range(1, 13)]:
                self.assertEqual(ratio(top, bottom), pair(Fraction(top, bottom)))

    def test_signs_beside_fractions_of_python(self):
        source = random.Random(1)
        for _ in range(300):
            one, two = draw_row(source, 2)
            left, right = number(one), number(two)
            self.assertEqual(plus(one, two), pair(left + right))
            self.assertEqual(minus(one, two), pair(left - right))
            self.assertEqual(times(one, two), pair(left * right))
            self.assertIs(is_below(one, two), left < right)
            if right != 0:
                self.assertEqual(over(one, two), pair(left / right))

    def test_rows(self):
        source = random.Random(2)
        for many in range(6):
            for _ in range(30):
                one, two = draw_row(source, many), draw_row(source, many)
                self.assertEqual(dot(one, two), pair(sum(a * b for a, b in zip(row(one), row(two)))))
                self.assertEqual(total(one), pair(sum(row(one))))
                bottom = common_bottom(one)
                self.assertTrue(all(bottom % each[1] == 0 for each in one))
                self.assertEqual(scaled(one, bottom * 3), [number(each) * bottom * 3 for each in one])
        self.assertEqual((dot((), ()), total(()), common_bottom(())), (NIL, NIL, 1))
        self.assertEqual(common_bottom(((1, 4), (5, 6), (2, 1))), 12)

    def test_forms(self):
        for value in [*strange_values(), (2, 4), (1, 0), (0, 2), (True, 1), (1, True), [1, 2], (1, 2, 3), (1,), (-1, -2)]:
            self.assertIs(is_fraction(value), False, value)
        for value in [HALF, NIL, (-5, 7), *bent(HALF), *bent((-3, 4))]:
            self.assertIs(is_fraction(value), is_plain_fraction(value), value)
        self.assertIs(is_within(3, 3, 3), True)
        for value in (2, 4, True, None, "3"):
            self.assertIs(is_within(value, 3, 3), False)
        self.assertIs(is_row((), 0), True)
        self.assertIs(is_row((HALF, (2, 4)), 2), False)
        self.assertIs(are_odds((HALF, HALF), 2), True)
        self.assertIs(are_odds(((3, 2), (-1, 2)), 2), False)


class EquationsTest(unittest.TestCase):
    def drawn(self, source, many):
        """A matrix of the told kind: each number less less than the whole of others."""
        matrix = []
        for at in range(many):
            parts = [source.choice((0, 0, 1, 2, 5)) for _ in range(many)]
            whole = sum(parts) + source.randint(1, 3)
            matrix.append([pair(int(at == to) - Fraction(part, whole)) for to, part in enumerate(parts)])
        return matrix

    def test_both_ways(self):
        for seed in range(60):
            source = random.Random(seed)
            many, wide = 1 + seed % 9, 1 + seed % 4
            matrix = self.drawn(source, many)
            rights = [draw_row(source, wide) for _ in range(many)]
            told = solved(matrix, rights)
            numbers = [row(line) for line in matrix]
            for at in range(wide):
                right = [number(each[at]) for each in rights]
                self.assertEqual([number(each[at]) for each in told], answers(numbers, right))
            side = [each[0] for each in rights]
            across = [list(line) for line in zip(*numbers)]
            self.assertEqual(row(solved_across(matrix, side)), answers(across, row(side)))
        self.assertEqual(solved([], []), [])


class TableausTest(unittest.TestCase):
    def looked_at(self, columns, rights, gains):
        """Each answer shows itself: a corner with prices, or prices that no numbers from 0 on can meet."""
        told = greatest_corner(columns, rights, gains)
        sums = [sum(price * each for price, each in zip(row(told[-1]), row(column))) for column in columns]
        shown = sum(price * each for price, each in zip(row(told[-1]), row(rights)))
        if told[0] == "none":
            self.assertTrue(all(each <= 0 for each in sums))
            self.assertGreater(shown, 0)
            return None
        numbers = row(told[1])
        self.assertTrue(all(each >= 0 for each in numbers))
        for at, right in enumerate(row(rights)):
            self.assertEqual(sum(each * number(column[at]) for each, column in zip(numbers, columns)), right)
        self.assertTrue(all(each >= gain for each, gain in zip(sums, row(gains))))
        greatest = sum(each * gain for each, gain in zip(numbers, row(gains)))
        self.assertEqual(shown, greatest)
        self.assertLessEqual(sum(each > 0 for each in numbers), len(rights))
        return greatest

    def test_drawn_equations(self):
        seen = [0, 0]
        for seed in range(600):
            source = random.Random(seed)
            many, rows = source.randint(1, 7), source.randint(0, 4)
            # The first row bounds all numbers; the others are often 0 and often alike.
            columns = [(ONE, *draw_row(source, rows, -2, 2)) for _ in range(many)]
            rights = [(3, 1), *[source.choice((NIL, NIL, ONE, (-1, 2))) for _ in range(rows)]]
            if rows > 1 and source.random() < 0.5:
                columns = [(*each, plus(each[1], each[2])) for each in columns]
                rights.append(plus(rights[1], rights[2]))
            seen[self.looked_at(columns, rights, draw_row(source, many)) is None] += 1
        self.assertGreater(min(seen), 100)

    def test_rows_of_nought(self):
        columns = [(ONE, NIL, NIL), (ONE, ONE, NIL), (ONE, (-1, 1), NIL)]
        self.assertEqual(self.looked_at(columns, [ONE, NIL, NIL], [NIL, ONE, ONE]), 1)
        self.assertIsNone(self.looked_at(columns, [ONE, NIL, ONE], [NIL, ONE, ONE]))
        self.assertEqual(self.looked_at([], [NIL], []), 0)
        self.assertIsNone(self.looked_at([], [ONE], []))

    def test_helpers_are_dropped(self):
        # The second equation's helper stays at 0 until the aim would raise it: it must be out of the way.
        for sign in (1, -1):
            columns = [(ONE, NIL), (ONE, (sign, 1)), (ONE, (-sign, 1))]
            for gains in ([NIL, ONE, (-1, 1)], [NIL, (-1, 1), ONE], [(-1, 1), ONE, ONE]):
                table = Tableau([[1, 0, 1, 1, 1, 1], [0, 1, 0, sign, -sign, 0], [0] * 6], 2)
                table.pivot(0, 2)
                table.drop_helpers()
                self.assertEqual((table.basis, table.last > 0), ([2, 3], True))
                self.looked_at(columns, [ONE, NIL], gains)

    def test_like_places_leave_in_order(self):
        table = Tableau([[1, 0, 2, 1, 4], [0, 1, 2, 1, 4], [0, 0, -1, -1, 0]], 2)
        self.assertEqual((table.entering(0), table.leaving(2)), (2, 0))
        table.basis = [3, 1]
        self.assertEqual(table.leaving(2), 1)
        self.assertIsNone(Tableau([[1, 0, 5], [0, 0, 0]], 1).entering(0))

    def test_a_way_that_would_go_round(self):
        # Beale's numbers: going by the steepest aim alone comes back to where it began.
        columns = [
            ((1, 4), HALF, NIL), ((-60, 1), (-90, 1), NIL), ((-1, 25), (-1, 50), ONE), ((9, 1), (3, 1), NIL),
            (ONE, NIL, NIL), (NIL, ONE, NIL), (NIL, NIL, ONE),
        ]
        gains = [(3, 4), (-150, 1), (1, 50), (-6, 1), NIL, NIL, NIL]
        self.assertEqual(self.looked_at(columns, [NIL, NIL, ONE], gains), Fraction(1, 20))


if __name__ == "__main__":
    unittest.main()
