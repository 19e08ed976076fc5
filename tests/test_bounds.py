"""Points [11], [12] and bounds.py."""

import random
import unittest
from fractions import Fraction
from itertools import combinations

from deedhouses.bounds import does_keep, is_reason, keep, most, plain_keep
from deedhouses.errors import InvalidBounds, InvalidHouse, InvalidStart, TooMany
from deedhouses.plans import is_still
from tests.helpers import (
    COIN, HALF, HUGE, NIL, ONE, QUARTER, SHOP, THREE, TWO, all_choices, all_gaps, bent, draw_house, draw_start, draw_still,
    is_plain_fraction, number, pair, plain, plain_pays, row, strange_values,
)

LITTLE = Fraction(1, 10 ** 6)


def kept(bounds, pays):
    return all(bound is None or pay >= number(bound) for bound, pay in zip(bounds, pays))


def is_reason_too(house, start, bounds, value):
    """A reason of [11] once more."""
    if type(value) is not tuple or len(value) != 2:
        return False
    for part, many in zip(value, (house[1], len(house[2]))):
        if type(part) is not tuple or len(part) != many or not all(is_plain_fraction(each) for each in part):
            return False
    weights, worths = row(value[0]), row(value[1])
    if any(weight < 0 or (bound is None and weight != 0) for weight, bound in zip(weights, bounds)):
        return False
    if min(all_gaps(house, weights, worths)) < 0:
        return False
    wanted = sum(weight * number(bound) for weight, bound in zip(weights, bounds) if bound is not None)
    return sum(chance * worth for chance, worth in zip(row(start), worths)) < wanted


def doubled_too(still):
    return sum(each != NIL for odds in still for each in odds) - len(still)


def drawn_bounds(seed, house, start):
    """Bounds of many kinds: at a plan's pays, at means, at greatest ones, a little and far above."""
    source = random.Random(seed)
    own = plain_pays(house, start, draw_still(seed, house))
    choices = all_choices(house)
    one, two = (plain_pays(house, start, plain(house, source.choice(choices))) for _ in range(2))
    mean = [(left + 2 * right) / 3 for left, right in zip(one, two)]
    greatest = [max(each) for each in zip(*[plain_pays(house, start, plain(house, choice)) for choice in choices])]
    for told in (own, mean, greatest, one):
        for more in (Fraction(0), LITTLE, -LITTLE, Fraction(1000)):
            whole = [pair(each + more) for each in told]
            yield tuple(whole)
            yield tuple(each if source.random() < 0.6 else None for each in whole)
    at = source.randrange(house[1])
    for more in (Fraction(0), LITTLE):
        yield tuple(pair(each + more) if pay == at else pair(own[pay]) for pay, each in enumerate(greatest))
        yield tuple(pair(each + more) if pay == at else None for pay, each in enumerate(greatest))
    yield (None,) * house[1]


def small_cases(many):
    for seed in range(many):
        share = ((1, 2), (4, 5), (0, 1), (1, 3))[seed % 4]
        house = draw_house(seed, 1 + seed % 3, 4, 1 + seed // 3 % 4, share=share, alike=seed % 2 == 1)
        yield seed, house, draw_start(seed, house)


class KeepTest(unittest.TestCase):
    def test_examples(self):
        self.assertEqual(keep(COIN, (ONE,), (TWO, TWO)), ("kept", (((1, 2), (1, 2)),)))
        self.assertEqual(keep(COIN, (ONE,), (THREE, TWO))[0], "not kept")
        self.assertIs(is_reason(COIN, (ONE,), (THREE, TWO), ((ONE, ONE), ((4, 1),))), True)
        self.assertIs(does_keep(COIN, (ONE,), (ONE, ONE), ((HALF, HALF),)), True)
        self.assertEqual(most(COIN, (ONE,), (None, ONE), 0)[:3], ("most", (3, 1), (((3, 4), (1, 4)),)))
        self.assertEqual(most(COIN, (ONE,), (THREE, THREE), 1)[0], "not kept")
        self.assertIs(plain_keep(COIN, (ONE,), (ONE, ONE)), None)
        self.assertEqual(plain_keep(SHOP, (ONE, NIL), (TWO, TWO)), (1, 0))

    def asked(self, house, start, bounds):
        """Looks at what keep tells by the document's own conditions; whether the bounds are kept."""
        told = keep(house, start, bounds)
        many = sum(bound is not None for bound in bounds)
        if told[0] == "kept":
            self.assertEqual(len(told), 2)
            self.assertTrue(is_still(house, told[1]))
            self.assertTrue(kept(bounds, plain_pays(house, start, told[1])))
            self.assertIs(does_keep(house, start, bounds, told[1]), True)
            self.assertLessEqual(doubled_too(told[1]), many)
            return True
        self.assertEqual((told[0], len(told)), ("not kept", 3))
        self.assertTrue(is_reason_too(house, start, bounds, told[1:]))
        self.assertIs(is_reason(house, start, bounds, told[1:]), True)
        return False

    def test_keep_by_its_own_words(self):
        seen = [0, 0]
        for seed, house, start in small_cases(60):
            for bounds in drawn_bounds(seed, house, start):
                seen[self.asked(house, start, bounds)] += 1
        self.assertGreater(min(seen), 300)

    def test_sides_of_keep(self):
        for seed, house, start in small_cases(30):
            self.assertTrue(self.asked(house, start, (None,) * house[1]))
            own = [pair(each) for each in plain_pays(house, start, draw_still(seed, house))]
            self.assertTrue(self.asked(house, start, tuple(own)))
            self.assertFalse(self.asked(house, start, ((10 ** 6, 1), *own[1:])))

    def test_stands_that_are_not_reached(self):
        stay = (((0, ONE),), (ONE, NIL))
        rich = (((1, ONE),), ((9, 1), (9, 1)))
        house = (HALF, 2, ((stay, (((0, ONE),), (NIL, ONE))), (rich, stay)))
        self.assertTrue(self.asked(house, (ONE, NIL), (ONE, ONE)))
        self.assertFalse(self.asked(house, (ONE, NIL), (TWO, ONE)))
        self.assertTrue(self.asked(house, (HALF, HALF), (TWO, ONE)))
        self.assertEqual(keep(house, (ONE, NIL), (ONE, ONE))[1][1], (ONE, NIL))

    def test_large_houses(self):
        for seed in range(6):
            house = draw_house(seed, 8, 4, 4, share=((9, 10), (1, 2))[seed % 2])
            start = draw_start(seed, house)
            own = plain_pays(house, start, draw_still(seed, house))
            for more in (Fraction(0), Fraction(1, 2), Fraction(5), Fraction(-1)):
                bounds = tuple(pair(each + more) for each in own)
                self.assertTrue(self.asked(house, start, bounds) or more > 0)

    def test_numbers_of_some_hundred_figures(self):
        house = (HALF, 2, ((
            (((0, ONE),), (HUGE, NIL)), (((0, ONE),), (NIL, HUGE)), (((0, ONE),), ((1, 10 ** 390), ONE)),
        ),))
        self.assertTrue(self.asked(house, (ONE,), (HUGE, HUGE)))
        more = pair(number(HUGE) + Fraction(1, HUGE[1]))
        self.assertFalse(self.asked(house, (ONE,), (HUGE, more)))

    def test_does_keep(self):
        for seed, house, start in small_cases(30):
            for turn, bounds in enumerate(drawn_bounds(seed, house, start)):
                still = draw_still(seed + turn % 3, house)
                told = does_keep(house, start, bounds, still)
                self.assertIs(told, kept(bounds, plain_pays(house, start, still)))


class ReasonTest(unittest.TestCase):
    def test_what_is_none(self):
        start, bounds = (ONE,), (THREE, TWO)
        for value in (
            ((ONE, ONE), ((5, 1),)),  # just at the sum
            ((ONE, ONE), ((3, 1),)),  # a gap below 0
            (((-1, 1), ONE), ((9, 2),)), ((ONE, ONE),), ((ONE, ONE), ((4, 1),), None), [(ONE, ONE), ((4, 1),)],
            ([ONE, ONE], ((4, 1),)), ((ONE, ONE), [(4, 1)]), ((ONE,), ((4, 1),)), ((ONE, ONE), ()), ((NIL, NIL), (NIL,)),
            ((ONE, ONE), ((8, 2),)), (((2, 2), ONE), ((4, 1),)), ((ONE, (True, 1)), ((4, 1),)), ((1, 1), ((4, 1),)),
        ):
            self.assertIs(is_reason(COIN, start, bounds, value), False, value)
        self.assertIs(is_reason(COIN, start, bounds, ((ONE, ONE), ((9, 2),))), True)
        self.assertIs(is_reason(COIN, start, (THREE, None), ((ONE, NIL), ((4, 1),))), False)
        self.assertIs(is_reason(COIN, start, ((5, 1), None), ((ONE, NIL), ((4, 1),))), True)
        self.assertIs(is_reason(COIN, start, ((5, 1), None), ((ONE, ONE), ((4, 1),))), False)
        self.assertIs(is_reason(COIN, start, (None, None), ((NIL, NIL), (NIL,))), False)
        self.assertIs(is_reason(COIN, start, (None, None), ((NIL, NIL), ((-1, 1),))), False)

    def test_whatever_it_is(self):
        for value in strange_values():
            self.assertIs(is_reason(COIN, (ONE,), (THREE, TWO), value), False)
        for seed, house, start in small_cases(12):
            bounds = tuple((500, 1) if pay % 2 == 0 else None for pay in range(house[1]))
            told = keep(house, start, bounds)
            self.assertEqual(told[0], "not kept")
            for value in bent(told[1:]):
                self.assertIs(is_reason(house, start, bounds, value), is_reason_too(house, start, bounds, value), value)


class MostTest(unittest.TestCase):
    def asked(self, house, start, bounds, pay):
        """Looks at what most tells by the document's own conditions; the greatest number, or None."""
        told = most(house, start, bounds, pay)
        if told[0] == "not kept":
            self.assertTrue(is_reason_too(house, start, bounds, told[1:]))
            return None
        self.assertEqual((told[0], len(told)), ("most", 5))
        _, greatest, still, weights, worths = told
        pays = plain_pays(house, start, still)
        self.assertTrue(is_still(house, still))
        self.assertTrue(kept(bounds, pays))
        self.assertTrue(is_plain_fraction(greatest))
        self.assertEqual(pays[pay], number(greatest))
        self.assertLessEqual(doubled_too(still), sum(bound is not None for bound in bounds))
        self.assertTrue(all(is_plain_fraction(each) for each in (*weights, *worths)))
        self.assertEqual((len(weights), len(worths)), (house[1], len(house[2])))
        self.assertGreaterEqual(min(all_gaps(house, row(weights), row(worths))), 0)
        rest = [weight - (at == pay) for at, weight in enumerate(row(weights))]
        for weight, bound in zip(rest, bounds):
            self.assertGreaterEqual(weight, 0)
            self.assertTrue(bound is not None or weight == 0)
        shown = sum(chance * worth for chance, worth in zip(row(start), row(worths)))
        shown -= sum(weight * number(bound) for weight, bound in zip(rest, bounds) if bound is not None)
        self.assertEqual(shown, number(greatest))
        return number(greatest)

    def test_most_by_its_own_words(self):
        seen = [0, 0]
        for seed, house, start in small_cases(40):
            for bounds in drawn_bounds(seed, house, start):
                for pay in range(house[1]):
                    greatest = self.asked(house, start, bounds, pay)
                    self.assertEqual(greatest is None, keep(house, start, bounds)[0] == "not kept")
                    seen[greatest is None] += 1
        self.assertGreater(min(seen), 300)

    def test_beside_all_plain_plans_and_means(self):
        for seed, house, start in small_cases(24):
            points = [plain_pays(house, start, plain(house, choice)) for choice in all_choices(house)][:24]
            middle = points[seed % len(points)]
            for bounds in ((None,) * house[1], tuple(pair(each) for each in middle), (pair(middle[0]), *[None] * (house[1] - 1))):
                for pay in range(house[1]):
                    greatest = self.asked(house, start, bounds, pay)
                    if not any(bounds):
                        self.assertEqual(greatest, max(each[pay] for each in points) if len(points) < 24 else greatest)
                    for one, two in combinations(points, 2):
                        for part in (Fraction(0), Fraction(1, 3), Fraction(1, 2), Fraction(1)):
                            mean = [part * left + (1 - part) * right for left, right in zip(one, two)]
                            self.assertTrue(not kept(bounds, mean) or mean[pay] <= greatest)

    def test_bound_on_the_pay_itself(self):
        self.assertEqual(self.asked(COIN, (ONE,), (ONE, ONE), 0), 3)
        self.assertEqual(self.asked(COIN, (ONE,), (THREE, ONE), 0), 3)
        self.assertEqual(self.asked(COIN, (ONE,), ((4, 1), NIL), 0), 4)
        self.assertEqual(self.asked(COIN, (ONE,), ((4, 1), NIL), 1), 0)
        self.assertIsNone(self.asked(COIN, (ONE,), ((4, 1), QUARTER), 1))
        self.assertEqual(self.asked(COIN, (ONE,), (None, None), 1), 4)

    def test_large_houses(self):
        for seed in range(4):
            house = draw_house(seed, 8, 4, 4, share=(4, 5))
            start = draw_start(seed, house)
            own = plain_pays(house, start, draw_still(seed, house))
            for pay in range(4):
                told = self.asked(house, start, tuple(pair(each) if at != pay else None for at, each in enumerate(own)), pay)
                self.assertGreaterEqual(told, own[pay])


class PlainKeepTest(unittest.TestCase):
    def test_beside_all_choices(self):
        seen = [0, 0]
        for seed, house, start in small_cases(45):
            points = {choice: plain_pays(house, start, plain(house, choice)) for choice in all_choices(house)}
            for bounds in drawn_bounds(seed, house, start):
                told = plain_keep(house, start, bounds)
                able = [choice for choice in points if kept(bounds, points[choice])]
                seen[told is None] += 1
                if told is None:
                    self.assertEqual(able, [])
                else:
                    self.assertIn(told, able)
        self.assertGreater(min(seen), 100)

    def test_many_choices(self):
        deeds = tuple((((0, ONE),), ((at, 1),)) for at in range(4))
        house = (HALF, 1, (deeds,) * 4)
        start = (QUARTER,) * 4
        self.assertEqual(plain_keep(house, start, ((6, 1),)), (3, 3, 3, 3))
        self.assertIs(plain_keep(house, start, ((6 * 10 ** 9 + 1, 10 ** 9),)), None)
        more = (HALF, 1, (deeds,) * 4 + (deeds[:2],))
        self.raised(TooMany, 512, more, (QUARTER,) * 4 + (NIL,), (None,))
        self.raised(TooMany, 4 ** 8, (HALF, 1, (deeds,) * 8), (ONE,) + (NIL,) * 7, ((99, 1),))
        self.raised(TooMany, 324, (HALF, 1, (deeds,) + (deeds[:3],) * 4), (ONE,) + (NIL,) * 4, (ONE,))

    def test_too_many_is_told_last(self):
        deeds = tuple((((0, ONE),), ((at, 1),)) for at in range(4))
        house = (HALF, 1, (deeds,) * 5)
        start = (ONE,) + (NIL,) * 4
        with self.assertRaises(InvalidHouse):
            plain_keep((ONE, *house[1:]), start, (None,))
        with self.assertRaises(InvalidStart):
            plain_keep(house, (ONE,), ())
        with self.assertRaises(InvalidBounds):
            plain_keep(house, start, (1,))
        self.raised(TooMany, 1024, house, start, (None,))

    def raised(self, kind, given, *arguments):
        with self.assertRaises(kind) as caught:
            plain_keep(*arguments)
        self.assertEqual(caught.exception.given, given)


if __name__ == "__main__":
    unittest.main()
