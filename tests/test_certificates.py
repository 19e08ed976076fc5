"""The certificates: each one's pair is accepted, and of two claims that exclude one another just one has a paper."""

import random
import unittest
from fractions import Fraction

from deedhouses.best import best
from deedhouses.better import least_more
from deedhouses.bounds import keep, most
from deedhouses.certificates import (
    certify_always, certify_best, certify_coming, certify_keep, certify_most, certify_place,
)
from deedhouses.certifyruns import certify_missed, certify_same, certify_ways
from deedhouses.certifysights import certify_parted, certify_rows_left, certify_sight_best, certify_sight_keep, stage_of
from deedhouses.certifyvague import certify_change, certify_move, certify_safe, certify_surely
from deedhouses.checker import accepts
from deedhouses.errors import InvalidGoals, InvalidHouse, InvalidNumber, NotBest, NotTwo, TooMany
from deedhouses.goals import greatest_coming, least_coming
from deedhouses.misses import miss_bound, miss_chance
from deedhouses.moves import gain_room
from deedhouses.players import player_pays, player_steps
from deedhouses.polygons import corners
from deedhouses.runs import count_ways, ways
from deedhouses.sightbest import best_lookout, left_pairs, rows_left, rows_of, tree_sums
from deedhouses.sightbounds import sight_keep
from deedhouses.stretches import corner_houses
from deedhouses.worst import safest, worst_worths
from deedhouses.worths import pays_of
from tests.goings import draw_player
from tests.helpers import (
    COIN, HALF, NIL, ONE, QUARTER, SHOP, THREE, TOSSED, TWO, draw_dim, draw_fitting, draw_house, draw_row, draw_start, draw_still,
    draw_vague, number, pair, row,
)
from tests.judge import judged
from tests.test_checker import AGAINST

NEAR = (Fraction(0), Fraction(1, 10 ** 40), -Fraction(1, 10 ** 40), Fraction(1, 3), -Fraction(1, 3))


class CertificateTest(unittest.TestCase):
    def certified(self, call, *arguments):
        """The claim and the paper: accepted, with the arguments as they were passed, none for the claim against it."""
        claim, paper = call(*arguments)
        self.assertIs(accepts(claim, paper), True, (call.__name__, arguments))
        self.assertIs(judged(claim, paper), True, (call.__name__, arguments))
        for given, told in zip(arguments, claim[1:]):
            self.assertIs(told, given)
        if claim[0] in AGAINST:
            self.assertIs(accepts((AGAINST[claim[0]], *claim[1:]), paper), False)
        return claim, paper

    def test_best(self):
        for seed in range(12):
            house = draw_house(seed, 1 + seed % 4)
            weights = draw_row(random.Random(seed), 2)
            claim, _ = self.certified(certify_best, house, weights)
            self.assertEqual(claim, ("best", house, weights, best(house, weights)[0]))

    def test_keep_and_most(self):
        for seed in range(12):
            house = draw_house(seed, 1 + seed % 3)
            start = draw_start(seed, house)
            pays = pays_of(house, start, draw_still(seed, house))
            for pay in range(2):
                bounds = tuple(None if each == pay else own for each, own in enumerate(pays))
                claim, _ = self.certified(certify_most, house, start, bounds, pay)
                told = most(house, start, bounds, pay)[1]
                self.assertEqual(claim[5:], (told,))
                # At the greatest number, a little above and a little below.
                for by in NEAR:
                    moved = tuple(pair(number(told) + by) if each == pay else own for each, own in enumerate(bounds))
                    claim, _ = self.certified(certify_keep, house, start, moved)
                    self.assertEqual(claim[0], "not kept" if by > 0 else "kept")
                    claim, _ = self.certified(certify_most, house, start, moved, 1 - pay)
                    self.assertEqual(claim[0], "not kept" if by > 0 else "most")
                    self.assertEqual(len(claim), 4 if by > 0 else 6)
        self.assertEqual(self.certified(certify_keep, COIN, (ONE,), (None, None))[0][0], "kept")
        self.assertEqual(certify_keep(COIN, (ONE,), (THREE, TWO))[1], keep(COIN, (ONE,), (THREE, TWO))[1:])

    def test_place(self):
        for seed in range(12):
            house = draw_house(seed, 1 + seed % 3)
            start = draw_start(seed, house)
            told = [row(each[0]) for each in corners(house, start)]
            points = list(told)
            for one in told:
                for two in told:
                    points.append([(a + b) / 2 for a, b in zip(one, two)])
            points.append([sum(each) / len(told) for each in zip(*told)])
            points += [[one + Fraction(1, 3), two] for one, two in told] + [[one, two - Fraction(1, 9)] for one, two in told]
            for point in points:
                claim, _ = self.certified(certify_place, house, start, tuple(pair(each) for each in point))
                self.assertEqual(claim[0], "in" if is_within(told, point) else "out", (told, point))
        line = corners(COIN, (ONE,))
        self.assertEqual(len(line), 2)
        for by in NEAR:
            claim, _ = self.certified(certify_place, COIN, (ONE,), (pair(2 + by), TWO))
            self.assertEqual(claim[0], "out" if by else "in")
        point = (HALF, 2, (((((0, ONE),), (ONE, TWO)),),))
        for by in NEAR:
            claim, _ = self.certified(certify_place, point, (ONE,), (TWO, pair(4 + by)))
            self.assertEqual(claim[0], "out" if by else "in")

    def test_coming(self):
        for seed in range(15):
            house = draw_house(seed, 2 + seed % 3, 3)
            goals = tuple(sorted(random.Random(seed).sample(range(len(house[2])), 1 + seed % 2)))
            most_of, least_of = greatest_coming(house, goals)[0], least_coming(house, goals)[0]
            for stand in range(len(house[2])):
                for by in NEAR:
                    at = pair(number(most_of[stand]) + by)
                    self.assertEqual(self.certified(certify_coming, house, goals, stand, at)[0][0], "comes not" if by > 0 else "comes")
                    at = pair(number(least_of[stand]) + by)
                    told = self.certified(certify_always, house, goals, stand, at)[0][0]
                    self.assertEqual(told, "comes less" if by > 0 else "always comes")

    def test_safe(self):
        for seed in range(15):
            vague = draw_vague(seed, 1 + seed % 3, 2)
            weights, start = draw_row(random.Random(seed), 2), draw_start(seed, vague)
            reached = sum(one * two for one, two in zip(row(start), row(safest(vague, weights)[1])))
            for by in NEAR:
                claim, _ = self.certified(certify_safe, vague, weights, start, pair(reached + by))
                self.assertEqual(claim[0], "unsafe" if by > 0 else "safe")

    def test_surely(self):
        for seed in range(15):
            vague = draw_vague(seed, 1 + seed % 3, 2)
            start, still = draw_start(seed, vague), draw_still(seed, vague)
            least = []
            for weights in ((ONE, NIL), (NIL, ONE)):
                least.append(sum(one * two for one, two in zip(row(start), row(worst_worths(vague, weights, still)))))
            for one in NEAR:
                for two in NEAR:
                    bounds = pair(least[0] + one), pair(least[1] + two)
                    claim, paper = self.certified(certify_surely, vague, start, bounds, still)
                    self.assertEqual(claim[0], "keeps not surely" if max(one, two) > 0 else "surely keeps")
                    if max(one, two) <= 0:
                        self.assertEqual(len(paper), 2)
                bounds = (None, pair(least[1] + one))
                claim, paper = self.certified(certify_surely, vague, start, bounds, still)
                self.assertEqual(claim[0], "keeps not surely" if one > 0 else "surely keeps")
            self.assertEqual(self.certified(certify_surely, vague, start, (None, None), still)[1], ())

    def test_change(self):
        seen = {}
        for seed in range(40):
            vague = draw_vague(seed, 1 + seed % 3, 2)
            source = random.Random(seed)
            weights = draw_row(source, 2)
            sign = 1 if seed % 2 else -1
            choice = best(draw_fitting(seed, vague), tuple((sign * each[0], each[1]) for each in weights))[1]
            for stand, own in enumerate(vague[2]):
                for deed in range(len(own)):
                    if deed != choice[stand]:
                        claim, paper = self.certified(certify_change, vague, weights, choice, stand, deed)
                        more = least_more(vague, weights, choice, stand, deed)[0]
                        self.assertEqual(claim[0], "once worse" if number(more) < 0 else "surely better")
                        if claim[0] == "surely better":
                            self.assertEqual(len(paper), corner_houses(vague, choice))
                        seen[claim[0]] = seen.get(claim[0], 0) + 1
        self.assertGreater(min(seen.values()), 5, seen)
        self.assertEqual(len(seen), 2)

    def test_move(self):
        seen = {}
        for seed in range(20):
            house = draw_house(seed, 1 + seed % 3, 3)
            weights = draw_row(random.Random(seed), 2)
            choice = best(house, weights)[1]
            for stand, own in enumerate(house[2]):
                for deed in range(len(own)):
                    low, high = gain_room(house, weights, choice, stand, deed)
                    for end, out in ((low, -1), (high, 1)):
                        for by in NEAR:
                            at = (0 if end is None else number(end)) + by
                            claim, _ = self.certified(certify_move, house, weights, choice, stand, deed, pair(at))
                            is_in = (low is None or at >= number(low)) and (high is None or at <= number(high))
                            self.assertEqual(claim[0], "stays" if is_in else "stays not")
                            seen[claim[0], deed == choice[stand]] = seen.get((claim[0], deed == choice[stand]), 0) + 1
        self.assertEqual(len(seen), 4)

    def test_sights(self):
        for seed in range(12):
            dim = draw_dim(seed, 3 + seed % 2, 2, 1 + seed % 3, 2)
            start, weights = draw_start(seed, dim[0]), draw_row(random.Random(seed), 2)
            for many in range(4):
                claim, paper = self.certified(certify_sight_best, dim, start, weights, many)
                self.assertEqual((claim[5], paper), (best_lookout(dim, start, weights, many)[0], ()))
                top = number(best_lookout(dim, start, (ONE, NIL), many)[0])
                for by in NEAR:
                    claim, _ = self.certified(certify_sight_keep, dim, start, (pair(top + by), None), many)
                    self.assertEqual(claim[0], "sight not kept" if by > 0 else "sight kept")
                    bounds = (pair(top + by), (-99, 1))
                    self.assertEqual(self.certified(certify_sight_keep, dim, start, bounds, many)[0][0], claim[0])
                self.assertEqual(sight_keep(dim, start, (None, None), many)[0], "kept")
                self.certified(certify_sight_keep, dim, start, (None, None), many)

    def test_rows_left(self):
        for seed in range(14):
            dim = draw_dim(seed, 2 + seed % 3, 2, 1 + seed % 2, 1)
            for many in range(3 if seed % 4 else 4):
                claim, paper = self.certified(certify_rows_left, dim, (ONE,), many)
                told = rows_left(dim, (ONE,), many)
                self.assertEqual(claim[4], tuple(tuple(own for own, _ in pairs) for pairs in told))
                self.assertEqual(len(paper), many)
                if many:
                    self.assertEqual(tuple(each[0] for each in paper[-1]), claim[4])

    def test_rows_left_where_there_are_too_many(self):
        for seed, stands, marks, steps, sums in ((202, 8, 3, 2, 324), (98, 6, 3, 3, 400), (9, 8, 3, 3, 528)):
            dim = draw_dim(seed, stands, 4, marks, 1, share=(9, 10))
            for many in range(5):
                if many <= steps:
                    claim, paper = self.certified(certify_rows_left, dim, (ONE,), many)
                else:
                    for call in (certify_rows_left, rows_left):
                        with self.assertRaises(TooMany) as caught:
                            call(dim, (ONE,), many)
                        self.assertEqual(caught.exception.given, sums)
            # A paper that is right but for how many sums there are is none.
            ahead = [list(rows) for rows in claim[4]]
            lists = [left_pairs(tree_sums(dim, (ONE,), mark, [[(own, ()) for own in rows] for rows in ahead])) for mark in range(marks)]
            told = rows_of(lists)
            more = (*claim[:3], steps + 1, tuple(tuple(rows) for rows in told))
            self.assertIs(accepts(more, paper + (stage_of(dim, (ONE,), ahead, told),)), False)
            self.assertIs(accepts(claim, paper[:-1] + (stage_of(dim, (ONE,), [list(each[0]) for each in paper[-2]], ahead),)), True)

    def test_parted(self):
        seen = {}
        for seed in range(40):
            source = random.Random(seed)
            size = 1 + seed % 5
            rows = tuple(draw_row(source, size) for _ in range(source.randint(1, 6)))
            mean = [sum(number(each[at]) for each in rows) / len(rows) for at in range(size)]
            for by in NEAR:
                claim, _ = self.certified(certify_parted, rows, tuple(pair(each + by) for each in mean))
                if by <= 0:
                    self.assertEqual(claim[0], "row mixed")
                seen[claim[0]] = seen.get(claim[0], 0) + 1
        self.assertEqual(len(seen), 2)

    def test_ways_missed_and_same(self):
        for seed in range(15):
            house = draw_house(seed, 1 + seed % 3, 2)
            start, player = draw_start(seed, house), draw_player(seed, house)
            claim, paper = self.certified(certify_same, house, start, player)
            self.assertEqual(paper, ())
            self.assertEqual(pays_of(house, start, claim[4]), player_pays(house, start, player))
            for many in (0, 1, 2, 3, 4, 20, 21, 60):
                few = count_ways(house, start, player, many) <= 400 and many <= 20
                if few:
                    claim, paper = self.certified(certify_ways, house, start, player, many)
                    self.assertEqual(claim[5], player_steps(house, start, player, many))
                    self.assertEqual(paper, ways(house, start, player, many))
                elif many <= 20:
                    with self.assertRaises(TooMany):
                        certify_ways(house, start, player, many)
                for allowance in (HALF, TWO):
                    claim, paper = self.certified(certify_missed, house, start, player, many, allowance)
                    if few:
                        self.assertEqual(claim[6], miss_chance(house, start, player, many, allowance))
                        self.assertEqual(paper, ways(house, start, player, many))
                    else:
                        self.assertEqual((claim[6], paper), (miss_bound(house, start, player, many, allowance), ()))
                    for by in NEAR:
                        is_so = accepts(claim[:6] + (pair(number(claim[6]) + by),), paper)
                        self.assertIs(is_so, by >= 0)

    def test_missed_by_one_way_of_many_steps(self):
        alone = (HALF, 1, (((((0, ONE),), (ONE,)),),))
        for many in (0, 1, 19, 20, 21, 60):
            claim, paper = self.certified(certify_missed, alone, (ONE,), ("still", ((ONE,),)), many, HALF)
            self.assertEqual(claim[6], NIL)
            self.assertEqual(paper, ((((0, 0, 0),) * many, ONE),) if many <= 20 else ())

    def test_errors_of_the_function_first(self):
        with self.assertRaises(InvalidHouse):
            certify_coming(5, 5, 5, 5)
        with self.assertRaises(InvalidGoals):
            certify_always(SHOP, (), 5, 5)
        for call in (certify_coming, certify_always):
            for stand, told, wrong in ((2, 5, 2), (0, 5, 5), (True, NIL, True), (0, (2, 4), (2, 4))):
                with self.assertRaises(InvalidNumber) as caught:
                    call(SHOP, (1,), stand, told)
                self.assertEqual(caught.exception.given, wrong)
        with self.assertRaises(NotBest):
            certify_move(SHOP, (ONE, NIL), (1, 0), 9, 9, 9)
        with self.assertRaises(InvalidNumber) as caught:
            certify_move(SHOP, (ONE, NIL), (0, 0), 0, 2, 9)
        self.assertEqual(caught.exception.given, 2)
        with self.assertRaises(InvalidNumber) as caught:
            certify_move(SHOP, (ONE, NIL), (0, 0), 0, 1, 9)
        self.assertEqual(caught.exception.given, 9)
        with self.assertRaises(NotTwo):
            certify_place((HALF, 1, (((((0, ONE),), (ONE,)),),)), (ONE,), (ONE, TWO))
        with self.assertRaises(InvalidNumber) as caught:
            certify_missed(SHOP, (ONE, NIL), ("still", TOSSED), 61, NIL)
        self.assertEqual(caught.exception.given, 61)
        with self.assertRaises(InvalidNumber) as caught:
            certify_missed(SHOP, (ONE, NIL), ("still", TOSSED), 60, NIL)
        self.assertEqual(caught.exception.given, NIL)
        wide = tuple((at, NIL, QUARTER) for at in range(8))
        many = (HALF, 1, (((wide, (ONE,)), (wide, (NIL,))),) * 8)
        with self.assertRaises(TooMany) as caught:
            certify_change(many, (ONE,), (0,) * 8, 0, 1)
        self.assertEqual(caught.exception.given, corner_houses(many, (0,) * 8))
        self.assertIs(accepts(("surely better", many, (ONE,), (0,) * 8, 0, 1), ((NIL,) * 8,) * 3), False)


def is_within(told, point):
    """Whether a point lies in the polygon of these corners, in order."""
    if len(told) == 1:
        return told[0] == point
    if len(told) == 2:
        one, two = told
        ahead = [b - a for a, b in zip(one, two)]
        side = [b - a for a, b in zip(one, point)]
        part = [b / a for a, b in zip(ahead, side) if a != 0][0]
        return ahead[0] * side[1] == ahead[1] * side[0] and 0 <= part <= 1
    for one, two in zip(told, told[1:] + told[:1]):
        if (two[0] - one[0]) * (point[1] - one[1]) < (two[1] - one[1]) * (point[0] - one[0]):
            return False
    return True


if __name__ == "__main__":
    unittest.main()
