"""Point [14] and polygons.py."""

import random
import unittest
from fractions import Fraction

from deedhouses.errors import InvalidHouse, InvalidPair, InvalidStart, NotTwo
from deedhouses.plans import is_choice, is_still
from deedhouses.polygons import corners, place
from tests.helpers import (
    COIN, HALF, NIL, ONE, SHOP, THREE, TWO, all_choices, all_gaps, draw_house, draw_start, draw_still, is_plain_fraction,
    number, pair, plain, plain_pays, row, strange_values,
)


def cross(one, two, three):
    return (two[0] - one[0]) * (three[1] - two[1]) - (two[1] - one[1]) * (three[0] - two[0])


def between(one, two, point):
    return all(min(one[at], two[at]) <= point[at] <= max(one[at], two[at]) for at in (0, 1))


def still_house(*gains):
    """A house of one stand and one step: its plans' pays are the means of the gains."""
    return NIL, 2, (tuple((((0, ONE),), tuple(pair(each) for each in told)) for told in gains),)


class PolygonsTest(unittest.TestCase):
    def test_examples(self):
        self.assertEqual(corners(COIN, (ONE,)), ((((0, 1), (4, 1)), (1,)), (((4, 1), (0, 1)), (0,))))
        self.assertEqual([each[0] for each in corners(SHOP, (ONE, NIL))], [((2, 1), (2, 1)), ((16, 5), (0, 1))])
        self.assertEqual(place(COIN, (ONE,), (ONE, THREE)), ("in", (((1, 4), (3, 4)),)))
        self.assertEqual(place(COIN, (ONE,), (TWO, ONE))[0], "out")

    def looked_at(self, house, start, points):
        """The corners, looked at beside points of which the polygon consists; as numbers."""
        told = corners(house, start)
        self.assertIs(type(told), tuple)
        for spot, choice in told:
            self.assertTrue(all(is_plain_fraction(each) for each in spot) and len(spot) == 2)
            self.assertTrue(is_choice(house, choice))
            self.assertEqual(row(spot), plain_pays(house, start, plain(house, choice)))
        spots = [tuple(row(spot)) for spot, _ in told]
        self.assertEqual(len(set(spots)), len(spots))
        self.assertEqual(spots[0], min(spots))
        for point in points:
            self.assertTrue(self.is_inside(spots, point))
        if len(spots) > 2:
            turns = zip(spots, spots[1:] + spots[:1], spots[2:] + spots[:2])
            self.assertTrue(all(cross(*each) > 0 for each in turns))
        return spots

    def is_inside(self, spots, point):
        if len(spots) == 1:
            return tuple(point) == spots[0]
        if len(spots) == 2:
            return cross(*spots, point) == 0 and between(*spots, point)
        return all(cross(one, two, point) >= 0 for one, two in zip(spots, spots[1:] + spots[:1]))

    def placed(self, house, start, point, is_in):
        """Looks at what place tells by the document's own conditions."""
        spot = tuple(pair(each) for each in point)
        told = place(house, start, spot)
        if is_in:
            self.assertEqual((told[0], len(told)), ("in", 2))
            self.assertTrue(is_still(house, told[1]))
            self.assertEqual(plain_pays(house, start, told[1]), list(point))
            return
        self.assertEqual((told[0], len(told)), ("out", 3))
        _, weights, worths = told
        self.assertEqual((len(weights), len(worths)), (2, len(house[2])))
        self.assertTrue(all(is_plain_fraction(each) for each in (*weights, *worths)))
        self.assertGreaterEqual(min(all_gaps(house, row(weights), row(worths))), 0)
        mean = sum(chance * worth for chance, worth in zip(row(start), row(worths)))
        self.assertLess(mean, sum(weight * each for weight, each in zip(row(weights), point)))

    def test_drawn_houses(self):
        many = set()
        for seed in range(80):
            house = draw_house(seed, 1 + seed % 4, 4, 2, alike=seed % 3 == 0)
            start = draw_start(seed, house)
            points = [plain_pays(house, start, plain(house, choice)) for choice in all_choices(house)]
            points.append(plain_pays(house, start, draw_still(seed, house)))
            many.add(len(self.looked_at(house, start, points)))
        self.assertLessEqual({1, 2, 3, 4, 5, 6}, many)

    def test_points_and_lines(self):
        self.assertEqual(corners(still_house((1, 2)), (ONE,)), (((ONE, TWO), (0,)),))
        self.assertEqual(len(self.looked_at(still_house((1, 2), (1, 2), (1, 2)), (ONE,), [])), 1)
        for told in (
            [(0, 0), (1, 1), (2, 2), (3, 3)], [(3, 0), (3, 5), (3, 2)], [(5, 1), (-2, 1), (0, 1), (0, 1)],
            [(0, 4), (1, 3), (4, 0)], [(2, 2), (2, 2), (3, 1)],
        ):
            spots = self.looked_at(still_house(*told), (ONE,), told)
            self.assertEqual(spots, [min(told), max(told)])

    def test_corners_in_order(self):
        told = corners(still_house((0, 0), (4, 0), (4, 4), (0, 4)), (ONE,))
        self.assertEqual([row(spot) for spot, _ in told], [[0, 0], [4, 0], [4, 4], [0, 4]])
        self.assertEqual([choice for _, choice in told], [(0,), (1,), (2,), (3,)])
        told = corners(still_house((4, 4), (0, 4), (0, 0), (0, 2)), (ONE,))
        self.assertEqual([row(spot) for spot, _ in told], [[0, 0], [4, 4], [0, 4]])
        told = corners(still_house((1, 1), (0, 0), (2, 0), (1, 2)), (ONE,))
        self.assertEqual([row(spot) for spot, _ in told], [[0, 0], [2, 0], [1, 2]])
        told = corners(still_house((2, 0), (0, 0), (1, 0), (1, -2)), (ONE,))
        self.assertEqual([row(spot) for spot, _ in told], [[0, 0], [1, -2], [2, 0]])

    def test_gains_on_one_line_and_like_gains(self):
        for seed in range(20):
            source = random.Random(seed)
            house = draw_house(seed, 3, 4, 1)
            slope, like = source.randint(-2, 2), seed % 2 == 0
            stands = tuple(
                tuple((chances, ((gains[0]), pair(slope * number(gains[0]) + (0 if like else 1)))) for chances, gains in stand)
                for stand in house[2]
            )
            changed = (house[0], 2, stands)
            start = draw_start(seed, changed)
            points = [plain_pays(changed, start, plain(changed, choice)) for choice in all_choices(changed)]
            self.assertLessEqual(len(self.looked_at(changed, start, points)), 2)

    def test_places(self):
        for seed in range(40):
            house = draw_house(seed, 1 + seed % 3, 4, 2, alike=seed % 3 == 0)
            start = draw_start(seed, house)
            spots = [tuple(row(spot)) for spot, _ in corners(house, start)]
            middle = [sum(each) / len(spots) for each in zip(*spots)]
            self.placed(house, start, middle, True)
            for one, two in zip(spots, spots[1:] + spots[:1]):
                side = [(left * 2 + right) / 3 for left, right in zip(one, two)]
                self.placed(house, start, one, True)
                self.placed(house, start, side, True)
                # A little from the side or corner, and a little beyond it.
                for near in (side, one):
                    for move in ((1, 0), (0, 1), (-1, 0), (0, -1), (two[1] - one[1], one[0] - two[0])):
                        point = [each + Fraction(step) / 10 ** 9 for each, step in zip(near, move)]
                        self.placed(house, start, point, self.is_inside(spots, point))
            self.placed(house, start, plain_pays(house, start, draw_still(seed, house)), True)
            self.placed(house, start, [spots[0][0] - 100, spots[0][1]], False)

    def test_large_house(self):
        house = draw_house(1, 8, 4, 2, share=(9, 10))
        start = draw_start(1, house)
        points = [plain_pays(house, start, draw_still(seed, house)) for seed in range(20)]
        spots = self.looked_at(house, start, points)
        self.assertGreater(len(spots), 8)
        for point in points[:5]:
            self.placed(house, start, point, True)
        for one, two in zip(spots, spots[1:]):
            point = [(left + right) / 2 for left, right in zip(one, two)]
            self.placed(house, start, point, True)
            self.placed(house, start, [point[0] + (two[1] - one[1]) / 10 ** 6, point[1] - (two[0] - one[0]) / 10 ** 6], False)

    def test_not_two_is_told_last(self):
        for pays in (1, 3, 4):
            house = draw_house(pays, 2, 2, pays)
            start = draw_start(1, house)
            for call, more in ((corners, ()), (place, ((ONE, ONE),))):
                with self.assertRaises(NotTwo):
                    call(house, start, *more)
                with self.assertRaises(InvalidStart):
                    call(house, (), *more)
                with self.assertRaises(InvalidHouse):
                    call(list(house), start, *more)
            for spot in ((ONE,) * pays if pays != 2 else None, None, ((2, 2), ONE), [ONE, ONE]):
                with self.assertRaises(InvalidPair) as caught:
                    place(house, start, spot)
                self.assertIs(caught.exception.given, spot)

    def test_whatever_the_pair_is(self):
        for value in strange_values():
            with self.assertRaises(InvalidPair) as caught:
                place(COIN, (ONE,), value)
            self.assertIs(caught.exception.given, value)


if __name__ == "__main__":
    unittest.main()
