"""Point [2], and from a text to the end: each part with the others, each claim accepted and none with another number."""

import random
import unittest
from fractions import Fraction

from deedhouses.best import best
from deedhouses.certificates import (
    certify_always, certify_best, certify_coming, certify_keep, certify_most, certify_place,
)
from deedhouses.certifyruns import certify_missed, certify_same, certify_ways
from deedhouses.certifysights import certify_rows_left, certify_sight_best, certify_sight_keep
from deedhouses.certifyvague import certify_change, certify_move, certify_safe, certify_surely
from deedhouses.checker import accepts
from deedhouses.consoles import Console
from deedhouses.desks import Desk
from deedhouses.goals import greatest_coming, least_coming
from deedhouses.language import house_text, read_house, reordered
from deedhouses.logs import reach
from deedhouses.misses import is_missed, sketch_of
from deedhouses.players import player_pays
from deedhouses.runs import run, way_chance
from deedhouses.sightbest import best_lookout
from deedhouses.stretches import fits
from deedhouses.wordings import plan_text, read_bounds, read_plan, read_start
from deedhouses.worst import safest
from deedhouses.worths import pays_of
from tests.goings import draw_player
from tests.helpers import ONE, draw_house, draw_row, draw_start, draw_still, number, pair
from tests.test_checker import AGAINST, nudged

TEXT = """share 3/4
pays gold, rest
stand camp
deed wait: 1 camp gets 0, 2
deed climb: 1/2 slope1, 1/2 camp gets 0, -1
stand slope# to 3
deed climb: 2/3 slope#+1, 1/3 slope#-1 gets 2#, -1#
deed back: 1 camp gets 1/2#, 0
stand hut
deed sleep: 1/2 hut, 1/4 camp, 1/4 slope3 gets 0, 3"""
LITTLE = Fraction(1, 10 ** 6)


class ThroughoutTest(unittest.TestCase):
    def certified(self, told):
        """The claim is accepted with its paper, and it is not with another number in the place of a last one."""
        claim, paper = told
        self.assertIs(accepts(claim, paper), True, claim)
        if claim[0] in AGAINST:
            self.assertIs(accepts((AGAINST[claim[0]], *claim[1:]), paper), False)
        elif claim[0] not in ("missed",):
            for by in (LITTLE, -LITTLE):
                for other in nudged((claim[-1],), by):
                    self.assertIs(accepts(claim[:-1] + other, paper), False, claim[0])
        return claim, paper

    def test_from_a_text_to_the_end(self):
        named = read_house(TEXT)
        house = named[0]
        self.certified((("reads", TEXT, named), ()))
        self.certified((("reads", house_text(named), named), ()))
        start = read_start(named, "1/2 camp, 1/4 slope1, 1/4 hut")
        bounds = read_bounds(named, "gold at least 2, rest at least 1")
        claim, still = self.certified(certify_keep(house, start, bounds))
        self.assertEqual(claim[0], "kept")
        self.assertEqual(read_plan(named, plan_text(named, still)), still)
        greatest = self.certified(certify_most(house, start, bounds, 0))[0][5]
        above = read_bounds(named, f"gold at least {number(greatest) + LITTLE}, rest at least 1")
        self.assertEqual(self.certified(certify_keep(house, start, above))[0][0], "not kept")
        self.certified((("pays", house, start, still, pays_of(house, start, still)), ()))
        # A run of dice, its log's reach, safest plans there.
        player = ("still", still)
        source = random.Random(3)
        dice = tuple(pair(Fraction(source.randrange(1000), 1000)) for _ in range(121))
        way = run(house, start, player, dice)
        self.certified((("run", house, start, player, dice, way), ()))
        self.certified((("way", house, start, player, way, way_chance(house, start, player, way)), ()))
        vague = reach(sketch_of(house), way, (6, 1))
        self.assertIs(fits(vague, house), not is_missed(house, (6, 1), way))
        self.assertIs(fits(vague, house), True)
        self.certified((("fits", vague, house), ()))
        worths = safest(vague, (ONE, ONE))[1]
        reached = sum(number(one) * number(two) for one, two in zip(start, worths))
        for by in (0, LITTLE, -LITTLE):
            told = self.certified(certify_safe(vague, (ONE, ONE), start, pair(reached + by)))
            self.assertEqual(told[0][0], "unsafe" if by > 0 else "safe")
        self.assertLessEqual(reached, sum(number(one) * number(two) for one, two in zip(start, best(house, (ONE, ONE))[0])))
        self.certified(certify_surely(vague, start, (None, (-50, 1)), still))
        self.certified(certify_surely(vague, start, bounds, still))
        self.certified(certify_missed(house, start, player, 60, (6, 1)))
        # Chances of coming, and the best by sight, slopes looking alike.
        goals = (4,)
        for stand in range(5):
            for told, call in ((greatest_coming(house, goals)[0], certify_coming), (least_coming(house, goals)[0], certify_always)):
                for by in (0, LITTLE, -LITTLE):
                    self.certified(call(house, goals, stand, pair(number(told[stand]) + by)))
        dim = ((house[0], 2, house[2]), (0, 1, 1, 1, 2))
        brought = self.certified(certify_sight_best(dim, start, (ONE, ONE), 3))[0][5]
        self.assertEqual(brought, best_lookout(dim, start, (ONE, ONE), 3)[0])
        self.certified(certify_rows_left(dim, (ONE, ONE), 2))
        self.certified(certify_sight_keep(dim, start, bounds, 3))
        self.certified(certify_sight_keep(dim, start, (None, (1, 2)), 2))
        # A desk and its console do the same.
        desk = Desk(named)
        console = Console(desk)
        for line in ("begin 1/2 camp, 1/4 slope1, 1/4 hut", "settle gold at least 2, rest at least 1"):
            self.assertEqual(console.say(line), "done")
        self.assertEqual(console.say("best gold"), str(number(greatest)))
        self.certified((("kept", house, start, bounds), desk.still))
        self.certified((("pays", house, start, desk.still, desk.pays), ()))
        self.assertEqual(read_house(console.say("show house")), named)

    def test_of_two_claims_just_one_has_a_paper(self):
        for seed in range(20):
            source = random.Random(seed)
            house = draw_house(seed, 1 + seed % 4, 3)
            start, still = draw_start(seed, house), draw_still(seed, house)
            pays = pays_of(house, start, still)
            papers = []
            told = []
            for _ in range(6):
                bounds = tuple(pair(number(each) + Fraction(source.randint(-4, 4), 2)) for each in pays)
                told += [certify_keep(house, start, bounds), certify_place(house, start, bounds)]
            papers = [paper for _, paper in told]
            for claim, paper in told:
                self.certified((claim, paper))
                against = (AGAINST[claim[0]], *claim[1:])
                self.assertFalse(any(accepts(against, each) for each in papers))
                self.assertFalse(accepts(against, still))

    def test_all_plans(self):
        # No player of any kind has more than the best, or keeps what is told not to be kept.
        for seed in range(24):
            house = draw_house(seed, 1 + seed % 3, 3)
            start, player = draw_start(seed, house), draw_player(seed, house)
            weights = draw_row(random.Random(seed), 2)
            claim, _ = self.certified(certify_best(house, weights))
            most = sum(number(one) * number(two) for one, two in zip(start, claim[3]))
            pays = player_pays(house, start, player)
            self.assertLessEqual(sum(number(one) * number(two) for one, two in zip(weights, pays)), most)
            self.assertEqual(certify_place(house, start, pays)[0][0], "in")
            self.assertEqual(certify_keep(house, start, pays)[0][0], "kept")
            claim, _ = self.certified(certify_same(house, start, player))
            self.assertEqual(pays_of(house, start, claim[4]), pays)
            self.certified((("brings", house, start, player, pays), ()))
            self.certified(certify_ways(house, start, player, 1))

    def test_told_in_another_order_the_answers_are_the_same(self):
        named = read_house(TEXT)
        order = (4, 2, 0, 3, 1)
        other = reordered(named, order)
        for weights in ((ONE, ONE), (ONE, (-1, 2))):
            one, two = best(named[0], weights)[0], best(other[0], weights)[0]
            self.assertEqual(tuple(one[at] for at in order), two)
        start = read_start(named, "1/2 camp, 1/4 slope1, 1/4 hut")
        bounds = read_bounds(named, "rest at least 1")
        one = certify_most(named[0], start, bounds, 0)[0][5]
        two = certify_most(other[0], tuple(start[at] for at in order), bounds, 0)[0][5]
        self.assertEqual(one, two)

    def test_changes_and_moves_of_a_read_house(self):
        named = read_house(TEXT)
        house = named[0]
        way = run(house, (ONE,) + ((0, 1),) * 4, ("still", draw_still(1, house)), ((1, 3),) * 41)
        vague = reach(sketch_of(house), way, (2, 1))
        choice = best(house, (ONE, ONE))[1]
        for stand, own in enumerate(house[2]):
            for deed in range(len(own)):
                for told in ((-5, 1), (0, 1), (5, 1)):
                    self.certified(certify_move(house, (ONE, ONE), choice, stand, deed, told))
                if deed != choice[stand]:
                    self.certified(certify_change(vague, (ONE, ONE), choice, stand, deed))


if __name__ == "__main__":
    unittest.main()
