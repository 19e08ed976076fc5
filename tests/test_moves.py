"""Points [29], [30] and moves.py."""

import random
import unittest
from fractions import Fraction
from itertools import product

from deedhouses.best import best
from deedhouses.errors import InvalidChoice, InvalidHouse, InvalidNumber, InvalidWeights, NotBest
from deedhouses.houses import is_house
from deedhouses.moves import chance_room, gain_room
from tests.helpers import (
    HALF, HUGE, NIL, ONE, QUARTER, SHOP, TWO, all_gaps, draw_house, draw_row, is_plain_fraction, number, pair, plain, row,
    weighted_worths,
)

WORST = (HALF, 1, (
    ((((0, (3, 4)), (1, QUARTER)), (ONE,)), (((1, ONE),), (NIL,))), ((((1, ONE),), (TWO,)),),
))
LITTLE = Fraction(1, 10 ** 6)


def is_best(house, weights, choice):
    """Whether no deed betters the choice's worths."""
    worths = weighted_worths(house, weights, plain(house, choice))
    return min(all_gaps(house, row(weights), worths)) >= 0


def with_gain(house, weights, stand, deed, more):
    """The house of one pay in which MORE has come to the deed's weighted gain."""
    stands = []
    for at, deeds in enumerate(house[2]):
        made = []
        for index, (chances, gains) in enumerate(deeds):
            gain = sum(number(weight) * number(each) for weight, each in zip(weights, gains))
            made.append((chances, (pair(gain + (more if (at, index) == (stand, deed) else 0)),)))
        stands.append(tuple(made))
    return house[0], 1, tuple(stands)


def with_chance(house, stand, deed, source, target, moved):
    """The house in which so much has gone from one chance to another."""
    chances, gains = house[2][stand][deed]
    numbers = {at: number(chance) for at, chance in chances}
    numbers[source] -= moved
    numbers[target] += moved
    made = tuple((at, pair(numbers[at])) for at in sorted(numbers) if numbers[at] != 0)
    own = house[2][stand]
    own = own[:deed] + ((made, gains),) + own[deed + 1:]
    return house[0], house[1], house[2][:stand] + (own,) + house[2][stand + 1:]


def drawn_cases(many):
    """Drawn houses with weights and a best choice; sometimes one that stands beside others that are as good."""
    for seed in range(many):
        house = draw_house(seed, 1 + seed % 4, 3, 1 + seed % 3, share=(HALF, (9, 10), (1, 3), NIL)[seed % 4], alike=seed % 3 == 0)
        weights = draw_row(random.Random(seed), house[1], -3, 3)
        yield seed, house, weights, best(house, weights)[1]


def deeds_of(house):
    return [(at, deed) for at, stand in enumerate(house[2]) for deed in range(len(stand))]


class GainTest(unittest.TestCase):
    def test_examples(self):
        self.assertEqual(gain_room(WORST, (ONE,), (0, 0), 0, 1), (None, (2, 5)))
        self.assertEqual(gain_room(WORST, (ONE,), (0, 0), 0, 0), ((-1, 4), None))

    def test_best_at_the_ends_and_between_alone(self):
        ends = [0, 0, 0]
        for seed, house, weights, choice in drawn_cases(60):
            for stand, deed in deeds_of(house):
                low, high = told = gain_room(house, weights, choice, stand, deed)
                self.assertIs(type(told), tuple)
                self.assertTrue(low is None or (is_plain_fraction(low) and low[0] <= 0))
                self.assertTrue(high is None or (is_plain_fraction(high) and high[0] >= 0))
                least = Fraction(-1000) if low is None else number(low)
                greatest = Fraction(1000) if high is None else number(high)
                for part in (0, Fraction(1, 3), 1):
                    changed = with_gain(house, weights, stand, deed, least + part * (greatest - least))
                    self.assertTrue(is_best(changed, (ONE,), choice))
                for end, further in ((low, -LITTLE), (high, LITTLE)):
                    if end is not None:
                        changed = with_gain(house, weights, stand, deed, number(end) + further)
                        self.assertFalse(is_best(changed, (ONE,), choice))
                ends[0 if choice[stand] != deed else 1 if low is not None and high is not None else 2] += 1
                if choice[stand] != deed:
                    self.assertIsNone(low)
                    self.assertIsNotNone(high)
        self.assertGreater(min(ends[:2]), 10)

    def test_the_changed_house_has_the_same_stretch_less_the_number(self):
        for seed, house, weights, choice in drawn_cases(30):
            one = with_gain(house, weights, 0, 0, 0)
            for stand, deed in deeds_of(house):
                told = gain_room(house, weights, choice, stand, deed)
                self.assertEqual(gain_room(one, (ONE,), choice, stand, deed), told)
                for end in told:
                    if end is not None:
                        moved = number(end) / 2
                        changed = with_gain(house, weights, stand, deed, moved)
                        less = tuple(None if each is None else pair(number(each) - moved) for each in told)
                        self.assertEqual(gain_room(changed, (ONE,), choice, stand, deed), less)

    def test_no_ends(self):
        alone = (HALF, 1, (((((0, ONE),), (ONE,)),),))
        self.assertEqual(gain_room(alone, (ONE,), (0,), 0, 0), (None, None))
        both = (HALF, 1, (((((0, ONE),), (ONE,)), (((0, ONE),), (ONE,))),))
        self.assertEqual(gain_room(both, (ONE,), (0,), 0, 0), (NIL, None))
        self.assertEqual(gain_room(both, (ONE,), (0,), 0, 1), (None, NIL))
        self.assertEqual(gain_room(both, (NIL,), (1,), 0, 1), (NIL, None))
        # At stand 0 one may go on to stand 1 or 2: what comes to the deed of 1 is bounded above or below by the choice.
        fork = (HALF, 1, (((((1, ONE),), (NIL,)), (((2, ONE),), (NIL,))), ((((1, ONE),), (ONE,)),), ((((2, ONE),), (NIL,)),)))
        self.assertEqual(gain_room(fork, (ONE,), (0, 0, 0), 1, 0), ((-1, 1), None))
        self.assertEqual(gain_room(fork, ((-1, 1),), (1, 0, 0), 1, 0), (None, ONE))
        self.assertEqual(gain_room(fork, (ONE,), (0, 0, 0), 2, 0), (None, ONE))


class ChanceTest(unittest.TestCase):
    def test_examples(self):
        self.assertEqual(chance_room(WORST, (ONE,), (0, 0), 0, 0, 0, 1), ((-1, 4), (3, 4)))
        self.assertEqual(chance_room(WORST, (ONE,), (0, 0), 0, 0, 1, 0), ((-3, 4), (1, 4)))

    def test_best_at_the_ends_and_between_alone(self):
        seen = {"chance": 0, "inner": 0, "own": 0, "other": 0}
        for seed, house, weights, choice in drawn_cases(90):
            for stand, deed in deeds_of(house):
                told = dict(house[2][stand][deed][0])
                for source, target in product(told, told):
                    if source == target:
                        continue
                    low, high = chance_room(house, weights, choice, stand, deed, source, target)
                    self.assertTrue(is_plain_fraction(low) and is_plain_fraction(high))
                    self.assertTrue(low[0] <= 0 <= high[0])
                    first, last = -number(told[target]), number(told[source])
                    self.assertTrue(first <= number(low) and number(high) <= last)
                    for part in (0, Fraction(2, 5), 1):
                        moved = number(low) + part * (number(high) - number(low))
                        changed = with_chance(house, stand, deed, source, target, moved)
                        self.assertTrue(is_house(changed))
                        self.assertTrue(is_best(changed, weights, choice))
                    for end, edge, sign in ((number(low), first, -1), (number(high), last, 1)):
                        if end != edge:
                            for step in (LITTLE, abs(edge - end) / 2, abs(edge - end)):
                                moved = end + sign * min(step, abs(edge - end))
                                changed = with_chance(house, stand, deed, source, target, moved)
                                self.assertFalse(is_best(changed, weights, choice))
                        seen["chance" if end == edge else "inner"] += 1
                    seen["own" if choice[stand] == deed else "other"] += 1
        self.assertGreater(min(seen.values()), 40)

    def test_told_the_other_way_round(self):
        for seed, house, weights, choice in drawn_cases(40):
            for stand, deed in deeds_of(house):
                told = [at for at, _ in house[2][stand][deed][0]]
                for source, target in product(told, told):
                    if source != target:
                        low, high = chance_room(house, weights, choice, stand, deed, source, target)
                        other = chance_room(house, weights, choice, stand, deed, target, source)
                        self.assertEqual(other, (pair(-number(high)), pair(-number(low))))

    def test_the_changed_house_has_the_same_stretch_less_the_number(self):
        for seed, house, weights, choice in drawn_cases(40):
            for stand, deed in deeds_of(house):
                told = [at for at, _ in house[2][stand][deed][0]]
                if len(told) > 1:
                    ends = chance_room(house, weights, choice, stand, deed, told[0], told[1])
                    for end in ends:
                        moved = number(end) / 3
                        changed = with_chance(house, stand, deed, told[0], told[1], moved)
                        less = tuple(pair(number(each) - moved) for each in ends)
                        self.assertEqual(chance_room(changed, weights, choice, stand, deed, told[0], told[1]), less)

    def test_share_of_nought(self):
        house = (NIL, 1, (((((0, HALF), (1, HALF)), (ONE,)), (((0, HALF), (1, HALF)), (NIL,))), ((((1, ONE),), (TWO,)),)))
        for deed in (0, 1):
            self.assertEqual(chance_room(house, (ONE,), (0, 0), 0, deed, 0, 1), ((-1, 2), HALF))

    def test_numbers_of_some_hundred_figures(self):
        low = (1, 10 ** 390)
        house = (HALF, 1, (
            ((((0, low), (1, (10 ** 390 - 1, 10 ** 390))), (HUGE,)), (((1, ONE),), (NIL,))), ((((1, ONE),), (TWO,)),),
        ))
        self.assertEqual(chance_room(house, (ONE,), (0, 0), 0, 0, 1, 0), ((-1, 10 ** 390), (10 ** 390 - 1, 10 ** 390)))
        self.assertIs(is_best(house, (ONE,), (0, 0)), True)


class ErrorsTest(unittest.TestCase):
    def raised(self, kind, told, call, *arguments):
        with self.assertRaises(kind, msg=arguments) as caught:
            call(*arguments)
        error = caught.exception
        self.assertEqual(getattr(error, "given", getattr(error, "index", None)), told)

    def test_in_order(self):
        for call, rest in ((gain_room, ()), (chance_room, (None, None))):
            for arguments, kind, told in (
                ((None, None, None, None, None), InvalidHouse, None), ((SHOP, (ONE,), None, None, None), InvalidWeights, None),
                ((SHOP, (ONE, 1), None, None, None), InvalidWeights, 1), ((SHOP, (ONE, NIL), (0,), None, None), InvalidChoice, None),
                ((SHOP, (ONE, NIL), (1, 1), None, None), InvalidChoice, 1), ((SHOP, (ONE, NIL), (1, 0), None, None), NotBest, None),
                ((SHOP, (ONE, NIL), (1, 0), 5, 5), NotBest, None), ((SHOP, (NIL, ONE), (0, 0), 0, 0), NotBest, None),
                ((SHOP, (ONE, NIL), (0, 0), 2, None), InvalidNumber, 2), ((SHOP, (ONE, NIL), (0, 0), False, None), InvalidNumber, False),
                ((SHOP, (ONE, NIL), (0, 0), -1, None), InvalidNumber, -1), ((SHOP, (ONE, NIL), (0, 0), 0, 2), InvalidNumber, 2),
                ((SHOP, (ONE, NIL), (0, 0), 1, 1), InvalidNumber, 1), ((SHOP, (ONE, NIL), (0, 0), 0, "0"), InvalidNumber, "0"),
                ((SHOP, (ONE, NIL), (0, 0), 0, True), InvalidNumber, True),
            ):
                self.raised(kind, told, call, *arguments, *rest)

    def test_source_and_target(self):
        right = (SHOP, (ONE, NIL), (0, 0), 0, 0)
        for wrong in (None, True, False, -1, 2, "0", (0,), [0], {}, 10 ** 399):
            self.raised(InvalidNumber, wrong, chance_room, *right, wrong, "none")
            self.raised(InvalidNumber, wrong, chance_room, *right, 0, wrong)
        self.raised(InvalidNumber, 0, chance_room, *right, 0, 0)
        self.raised(InvalidNumber, 1, chance_room, *right, 1, 1)
        # The other deed leads to stand 0 alone.
        self.raised(InvalidNumber, 1, chance_room, *right[:4], 1, 1, 0)
        self.raised(InvalidNumber, 1, chance_room, *right[:4], 1, 0, 1)
        self.raised(InvalidNumber, 0, chance_room, *right[:4], 1, 0, 0)

    def test_a_choice_as_good_as_the_best(self):
        house = (HALF, 1, (((((0, ONE),), (ONE,)), (((0, ONE),), (ONE,)), (((0, ONE),), (NIL,))),))
        for deed in (0, 1):
            self.assertEqual(gain_room(house, (ONE,), (deed,), 0, 2), (None, ONE))
        self.raised(NotBest, None, gain_room, house, (ONE,), (2,), 0, 2)
        self.raised(NotBest, None, chance_room, house, (ONE,), (2,), 0, 0, 0, 1)


if __name__ == "__main__":
    unittest.main()
