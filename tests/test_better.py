"""Points [27], [28] and better.py."""

import random
import unittest

from deedhouses.better import is_surely_better, lead, least_more
from deedhouses.errors import InvalidChoice, InvalidNumber, InvalidStart, InvalidStill, InvalidVague, InvalidWeights, TooMany
from deedhouses.stretches import corner_houses, filled, fits
from deedhouses.worst import best_worths, worst_worths
from tests.helpers import (
    HALF, HUGE, NIL, ONE, QUARTER, SHOP, TWO, all_choices, corner_houses_of, draw_fitting, draw_row, draw_start, draw_still,
    draw_vague, is_plain_fraction, number, plain, row, weighted_worths,
)

FIRST, SECOND = ((ONE, NIL), (ONE,)), ((NIL, ONE), (ONE,))
WIDE = (((0, (1, 4), (3, 4)), (1, (1, 4), (3, 4))), (ONE,))
VAGUE = (HALF, 1, ((WIDE, (((1, ONE, ONE),), (NIL,))), ((((1, ONE, ONE),), (TWO,)),)))


def along(start, worths):
    return sum(number(chance) * each for chance, each in zip(start, worths))


def more_in(house, weights, choice, stand, deed):
    """The more of the changed deed in one house."""
    worths = weighted_worths(house, weights, plain(house, choice))
    chances, gains = house[2][stand][deed]
    gain = sum(number(weight) * number(each) for weight, each in zip(weights, gains))
    return gain + number(house[0]) * sum(number(chance) * worths[to] for to, chance in chances) - worths[stand]


def with_filled(vague, house, weights, choice, stand, deed):
    """The house with D's row filled by CHOICE's worths there."""
    worths = [(each.numerator, each.denominator) for each in weighted_worths(house, weights, plain(house, choice))]
    own = house[2][stand]
    chances = filled(vague[2][stand][deed][0], tuple(worths), False)
    own = own[:deed] + ((chances, own[deed][1]),) + own[deed + 1:]
    return house[0], house[1], house[2][:stand] + (own,) + house[2][stand + 1:]


def drawn_changes(many):
    """Drawn vague houses with a choice and another deed at some stand."""
    seed = found = 0
    while found < many:
        seed += 1
        vague = draw_vague(seed, 1 + seed % 4, 3, 1 + seed % 2, share=(HALF, (9, 10), (1, 3), NIL)[seed % 4])
        source = random.Random(seed)
        choice = tuple(source.randrange(len(stand)) for stand in vague[2])
        able = [(at, deed) for at, stand in enumerate(vague[2]) for deed in range(len(stand)) if deed != choice[at]]
        if able and corner_houses(vague, choice) <= 40:
            found += 1
            yield seed, vague, draw_row(source, vague[1], -3, 3), choice, *source.choice(able)


class LeadTest(unittest.TestCase):
    def test_examples(self):
        self.assertEqual(lead(VAGUE, (ONE,), FIRST, SECOND, (ONE, NIL)), (2, 5))

    def test_beside_both_ends(self):
        for seed in range(40):
            vague = draw_vague(seed, 1 + seed % 4, 3, 2)
            weights, start = draw_row(random.Random(seed), 2), draw_start(seed, vague)
            one, two = draw_still(seed, vague), draw_still(seed + 1, vague)
            told = lead(vague, weights, one, two, start)
            self.assertTrue(is_plain_fraction(told))
            least = along(start, row(worst_worths(vague, weights, one)))
            greatest = along(start, row(best_worths(vague, weights, two)))
            self.assertEqual(number(told), least - greatest)
            for turn in range(4):
                left = weighted_worths(draw_fitting(seed + 100 * turn, vague), weights, one)
                right = weighted_worths(draw_fitting(seed + 7 + 100 * turn, vague), weights, two)
                self.assertLessEqual(number(told), along(start, left) - along(start, right))

    def test_a_plan_beside_itself(self):
        self.assertEqual(lead(VAGUE, (ONE,), FIRST, FIRST, (ONE, NIL)), (-16, 35))
        self.assertEqual(lead(VAGUE, (ONE,), FIRST, FIRST, (NIL, ONE)), NIL)
        self.assertEqual(lead(VAGUE, (ONE,), SECOND, SECOND, (ONE, NIL)), NIL)
        for seed in range(20):
            vague, still = draw_vague(seed), draw_still(seed, draw_vague(seed))
            self.assertLessEqual(number(lead(vague, (ONE, ONE), still, still, draw_start(seed, vague))), 0)

    def test_errors_in_order(self):
        for arguments, kind, told in (
            ((SHOP, None, None, None, None), InvalidVague, SHOP), ((VAGUE, (ONE, ONE), None, None, None), InvalidWeights, None),
            ((VAGUE, (1,), None, None, None), InvalidWeights, 0), ((VAGUE, (ONE,), FIRST[:1], (), None), InvalidStill, None),
            ((VAGUE, (ONE,), FIRST, (FIRST[0], (HALF,)), None), InvalidStill, 1),
            ((VAGUE, (ONE,), (FIRST[1], FIRST[1]), None, None), InvalidStill, 0),
            ((VAGUE, (ONE,), FIRST, SECOND, (HALF, None)), InvalidStart, 1),
            ((VAGUE, (ONE,), FIRST, SECOND, (HALF, QUARTER)), InvalidStart, None),
        ):
            with self.assertRaises(kind) as caught:
                lead(*arguments)
            self.assertEqual(getattr(caught.exception, "given", getattr(caught.exception, "index", None)), told)


class MoreTest(unittest.TestCase):
    def test_examples(self):
        self.assertEqual(least_more(VAGUE, (ONE,), (0, 0), 0, 1)[0], (-6, 7))
        self.assertIs(is_surely_better(VAGUE, (ONE,), (1, 0), 0, 0), True)
        self.assertEqual(least_more(VAGUE, (ONE,), (1, 0), 0, 0)[0], QUARTER)
        self.assertIs(is_surely_better(VAGUE, (ONE,), (0, 0), 0, 1), False)

    def test_beside_corner_houses_and_drawn_houses(self):
        signs = [0, 0]
        for seed, vague, weights, choice, stand, deed in drawn_changes(90):
            more, house = least_more(vague, weights, choice, stand, deed)
            self.assertTrue(is_plain_fraction(more))
            self.assertIs(fits(vague, house), True)
            self.assertEqual(more_in(house, weights, choice, stand, deed), number(more))
            sums = []
            for corner in corner_houses_of(vague, choice):
                full = with_filled(vague, corner, weights, choice, stand, deed)
                sums.append(more_in(full, weights, choice, stand, deed))
            self.assertEqual(len(sums), corner_houses(vague, choice))
            self.assertEqual(min(sums), number(more))
            for turn in range(6):
                other = draw_fitting(seed + 1000 * turn, vague)
                self.assertGreaterEqual(more_in(other, weights, choice, stand, deed), number(more))
            told = is_surely_better(vague, weights, choice, stand, deed)
            self.assertIs(told, more[0] >= 0)
            signs[told] += 1
        self.assertGreater(min(signs), 10)

    def test_surely_better_is_nowhere_worse(self):
        for seed, vague, weights, choice, stand, deed in drawn_changes(60):
            other = choice[:stand] + (deed,) + choice[stand + 1:]
            more, worse = least_more(vague, weights, choice, stand, deed)
            for house in [worse, *[draw_fitting(seed + 1000 * turn, vague) for turn in range(5)]]:
                old, new = (weighted_worths(house, weights, plain(house, each)) for each in (choice, other))
                rises = [two - one for one, two in zip(old, new)]
                own = more_in(house, weights, choice, stand, deed)
                # At S the worths change by the more times a number from 1 on, elsewhere by one from 0 on.
                self.assertTrue(all(each * own >= 0 for each in rises))
                self.assertGreaterEqual(abs(rises[stand]), abs(own))
                if more[0] >= 0:
                    self.assertGreaterEqual(min(rises), 0)
            if more[0] < 0:
                old, new = (weighted_worths(worse, weights, plain(worse, each)) for each in (choice, other))
                self.assertLess(new[stand], old[stand])

    def test_just_nought(self):
        # The other deed is like what CHOICE does at its worst: not worse there, so it is surely better.
        for gain, told in ((1, True), (2, True), (0, False)):
            vague = (HALF, 1, (((((0, NIL, ONE), (1, NIL, ONE)), (ONE,)), (((0, NIL, ONE), (1, NIL, ONE)), ((gain, 1),))),
                               ((((1, ONE, ONE),), (ONE,)),)))
            self.assertEqual(least_more(vague, (ONE,), (0, 0), 0, 1)[0], (gain - 1, 1))
            self.assertIs(is_surely_better(vague, (ONE,), (0, 0), 0, 1), told)

    def test_one_behind_the_other(self):
        found = 0
        for seed, vague, weights, choice, _, _ in drawn_changes(60):
            last = choice
            for stand, deeds in enumerate(vague[2]):
                for deed in range(len(deeds)):
                    if deed != last[stand] and corner_houses(vague, last) <= 40 \
                            and is_surely_better(vague, weights, last, stand, deed):
                        last = last[:stand] + (deed,) + last[stand + 1:]
                        found += 1
            for turn in range(4):
                house = draw_fitting(seed + 1000 * turn, vague)
                old, new = (weighted_worths(house, weights, plain(house, each)) for each in (choice, last))
                self.assertTrue(all(one <= two for one, two in zip(old, new)))
        self.assertGreater(found, 20)

    def test_both_ends_do_not_tell_it(self):
        # In one house for both the change is better by 1 whatever the row; house by house the ends overlap.
        ways = ((0, NIL, ONE), (1, NIL, ONE))
        last = ((((0, ONE, ONE),), (NIL,)), (((0, ONE, ONE),), (ONE,)))
        vague = (HALF, 1, (((ways, (NIL,)),), ((((1, ONE, ONE),), ((4, 1),)),), last))
        still, other = ((ONE,), (ONE,), (ONE, NIL)), ((ONE,), (ONE,), (NIL, ONE))
        self.assertLess(number(lead(vague, (ONE,), other, still, (NIL, NIL, ONE))), 0)
        self.assertEqual(least_more(vague, (ONE,), (0, 0, 0), 2, 1)[0], ONE)

    def test_how_many_houses(self):
        ways = ((0, NIL, ONE), (1, NIL, ONE))
        three = ways + ((2, NIL, ONE),)
        sure = ((0, ONE, ONE),)
        for many, told in ((8, 256), (7, 128), (0, 1)):
            stands = tuple(((ways if at < many else sure, ((at, 1),)), (three, (ONE,))) for at in range(8))
            vague = (HALF, 1, stands)
            self.assertEqual(corner_houses(vague, (0,) * 8), told)
            more, house = least_more(vague, (ONE,), (0,) * 8, 7, 1)
            self.assertIs(fits(vague, house), True)
            self.assertEqual(more_in(house, (ONE,), (0,) * 8, 7, 1), number(more))
        # Only the rows that CHOICE does count.
        self.assertEqual(corner_houses(vague, (1,) + (0,) * 7), 3)
        stands = ((((three, (ONE,)), (sure, (ONE,)))),) + (((ways, (ONE,)),),) * 7
        for call in (least_more, is_surely_better):
            with self.assertRaises(TooMany) as caught:
                call((HALF, 1, stands), (ONE,), (0,) * 8, 0, 1)
            self.assertEqual(caught.exception.given, 384)
        self.assertEqual(corner_houses((HALF, 1, stands), (1,) + (0,) * 7), 128)
        self.assertIs(is_surely_better((HALF, 1, stands), (ONE,), (1,) + (0,) * 7, 0, 0), True)

    def test_errors_in_order(self):
        ways = tuple((at, NIL, (2, 7)) for at in range(8))
        many = (HALF, 1, (((ways, (ONE,)), (ways, (NIL,))),) * 8)
        for call in (least_more, is_surely_better):
            for arguments, kind, told in (
                ((SHOP, None, None, None, None), InvalidVague, SHOP), ((many, (ONE, ONE), None, None, None), InvalidWeights, None),
                ((many, (ONE,), (0,), None, None), InvalidChoice, None), ((many, (ONE,), (0,) * 7 + (2,), 9, 9), InvalidChoice, 7),
                ((many, (ONE,), (0,) * 8, 8, 0), InvalidNumber, 8), ((many, (ONE,), (0,) * 8, True, 9), InvalidNumber, True),
                ((many, (ONE,), (0,) * 8, -1, 9), InvalidNumber, -1), ((many, (ONE,), (0,) * 8, 7, 2), InvalidNumber, 2),
                ((many, (ONE,), (0,) * 8, 7, None), InvalidNumber, None), ((many, (ONE,), (0,) * 8, 7, 0), InvalidNumber, 0),
                ((many, (ONE,), (1,) * 8, 0, 1), InvalidNumber, 1), ((many, (ONE,), (1,) * 8, 0, 0), TooMany, 280 ** 8),
            ):
                with self.assertRaises(kind) as caught:
                    call(*arguments)
                error = caught.exception
                self.assertEqual(getattr(error, "given", getattr(error, "index", None)), told)

    def test_numbers_of_some_hundred_figures(self):
        low = (1, 10 ** 390)
        vague = (HALF, 1, (((((0, low, ONE), (1, low, ONE)), (HUGE,)), (((0, low, ONE), (1, low, ONE)), (NIL,))), ((((1, ONE, ONE),), (ONE,)),)))
        more, house = least_more(vague, (ONE,), (0, 0), 0, 1)
        self.assertEqual(more_in(house, (ONE,), (0, 0), 0, 1), number(more))
        self.assertLess(more[0], 0)

    def test_choices_all(self):
        vague = draw_vague(8, 3, 3, 1, share=HALF)
        for choice in all_choices(vague):
            for stand, deeds in enumerate(vague[2]):
                for deed in range(len(deeds)):
                    if deed != choice[stand] and corner_houses(vague, choice) <= 256:
                        more, house = least_more(vague, (ONE,), choice, stand, deed)
                        self.assertEqual(more_in(house, (ONE,), choice, stand, deed), number(more))


if __name__ == "__main__":
    unittest.main()
