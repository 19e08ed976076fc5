"""Points [45], [46] and runs.py."""

import random
import unittest
from fractions import Fraction

from deedhouses.errors import InvalidDice, InvalidHouse, InvalidNumber, InvalidPlayer, InvalidStart, InvalidWay, TooMany
from deedhouses.logs import counts_of
from deedhouses.misses import sketch_of
from deedhouses.players import player_pays, player_steps
from deedhouses.runs import box_of, count_ways, run, way_chance, way_pays, ways
from tests.goings import draw_player, gains_on, gone_ways, odds_after
from tests.helpers import (
    COIN, HALF, NIL, ONE, QUARTER, SHOP, TOSSED, TURNS, TWO, draw_house, draw_start, number, pair, row, strange_values,
)

STILL = ("still", TOSSED)
LAST = (3, 4)


def draw_dice(source, many):
    return tuple(pair(Fraction(source.randrange(12), 12)) for _ in range(1 + 2 * many))


def picked_too(chances, die):
    """What a die picks, from behind: the last index at which the chances ahead are not above the die."""
    found = [at for at in range(len(chances)) if sum(chances[:at]) <= die and chances[at] > 0]
    return found[-1]


def run_too(house, start, player, dice):
    """The way by the dice, by [45]'s words, with the whole history."""
    history = (picked_too(row(start), number(dice[0])),)
    for at in range(1, len(dice), 2):
        deed = picked_too(row(odds_after(player, history)), number(dice[at]))
        chances = house[2][history[-1]][deed][0]
        history += (deed, chances[picked_too([number(each) for _, each in chances], number(dice[at + 1]))][0])
    return tuple((history[at], history[at + 1], history[at + 2]) for at in range(0, len(history) - 1, 2))


class RunTest(unittest.TestCase):
    def test_examples(self):
        start = (ONE, NIL)
        way = run(SHOP, start, STILL, (NIL, QUARTER, LAST, HALF, NIL))
        self.assertEqual(way, ((0, 0, 1), (1, 0, 0)))
        self.assertEqual(way_chance(SHOP, start, STILL, way), QUARTER)
        self.assertEqual(way_pays(SHOP, way), (TWO, NIL))
        self.assertEqual(box_of(SHOP, start, STILL, way), ((NIL, ONE), (NIL, HALF), (HALF, ONE), (NIL, ONE), (NIL, ONE)))
        self.assertEqual(ways(SHOP, start, STILL, 1), ((((0, 0, 0),), QUARTER), (((0, 0, 1),), QUARTER), (((0, 1, 0),), HALF)))
        self.assertEqual(count_ways(SHOP, start, STILL, 2), 7)

    def test_dice_at_the_ends_of_stretches(self):
        start, near = (HALF, HALF), (10 ** 30 - 1, 2 * 10 ** 30)
        for dice, way in (
            ((NIL,), ()), ((near,), ()), ((HALF, NIL, NIL), ((1, 0, 0),)), ((near, NIL, NIL), ((0, 0, 0),)),
            ((NIL, near, near), ((0, 0, 0),)), ((NIL, near, HALF), ((0, 0, 1),)), ((NIL, HALF, HALF), ((0, 1, 0),)),
            ((HALF, LAST, LAST, NIL, LAST), ((1, 0, 0), (0, 0, 1))),
        ):
            self.assertEqual(run(SHOP, start, STILL, dice), way)

    def test_chances_of_nought_are_skipped(self):
        never = ("still", ((NIL, ONE), (ONE,)))
        self.assertEqual(run(SHOP, (NIL, ONE), never, (NIL, NIL, NIL, NIL, NIL)), ((1, 0, 0), (0, 1, 0)))
        house = (HALF, 1, (((((0, HALF), (1, HALF)), (ONE,)),) * 4, ((((1, ONE),), (NIL,)),)))
        player = ("still", ((NIL, HALF, NIL, HALF), (ONE,)))
        for die, deed in ((NIL, 1), (QUARTER, 1), (HALF, 3), ((99, 100), 3)):
            self.assertEqual(run(house, (ONE, NIL), player, (NIL, die, NIL)), ((0, deed, 0),))

    def test_how_many_dice(self):
        start = (ONE, NIL)
        self.assertEqual(run(SHOP, start, STILL, (HALF,)), ())
        self.assertEqual(run(SHOP, start, STILL, (NIL,) * 121), ((0, 0, 0),) * 60)
        for wrong in ((), (NIL,) * 2, (NIL,) * 122, (NIL,) * 123, [NIL], None, HALF, "0", (NIL, NIL)):
            with self.assertRaises(InvalidDice) as caught:
                run(SHOP, start, STILL, wrong)
            self.assertIsNone(caught.exception.index)
        for wrong, at in (
            ((ONE,), 0), ((NIL, NIL, ONE), 2), ((NIL, (3, 2), ONE), 1), (((-1, 2),), 0), (((2, 4),), 0), ((NIL, 0, NIL), 1),
            ((NIL, (False, 1), None), 1), ((None, NIL, NIL), 0), ((NIL,) * 120 + (TWO,), 120), ((NIL, NIL, [0, 1]), 2),
        ):
            with self.assertRaises(InvalidDice) as caught:
                run(SHOP, start, STILL, wrong)
            self.assertEqual(caught.exception.index, at)

    def test_drawn_runs_beside_going_by_hand(self):
        source = random.Random(4)
        for seed in range(90):
            house = draw_house(seed, 1 + seed % 4, 3)
            start, player = draw_start(seed, house), draw_player(seed, house)
            for many in (0, 1, 4, 5, 6, 60 if seed < 12 else 9):
                dice = draw_dice(source, many)
                self.assertEqual(run(house, start, player, dice), run_too(house, start, player, dice), (seed, dice))

    def test_a_run_is_in_its_box_and_no_other_is(self):
        source = random.Random(6)
        for seed in range(40):
            house = draw_house(seed, 1 + seed % 4, 3)
            start, player = draw_start(seed, house), draw_player(seed, house)
            dice = draw_dice(source, 5)
            way = run(house, start, player, dice)
            box = box_of(house, start, player, way)
            self.assertEqual(len(box), 11)
            length = Fraction(1)
            for die, (low, high) in zip(dice, box):
                self.assertTrue(number(low) <= number(die) < number(high))
                length *= number(high) - number(low)
            self.assertEqual(length, number(way_chance(house, start, player, way)))
            for at, (low, high) in enumerate(box):
                near = pair(number(high) - Fraction(1, 10 ** 9))
                for die, is_in in ((low, True), (near, True), (high, False), (pair(number(low) - Fraction(1, 10 ** 9)), False)):
                    if 0 <= number(die) < 1:
                        other = run(house, start, player, dice[:at] + (die,) + dice[at + 1:])
                        self.assertEqual(other == way, is_in, (seed, at, die))

    def test_errors_in_order(self):
        start = (ONE, NIL)
        for wrong, kind in (
            ((5, 5, 5, 5), InvalidHouse), ((SHOP, 5, 5, 5), InvalidStart), ((SHOP, start, 5, 5), InvalidPlayer),
        ):
            for call in (run, way_chance, box_of, count_ways, ways):
                with self.assertRaises(kind):
                    call(*wrong)
        with self.assertRaises(InvalidHouse):
            way_pays(5, 5)


class WayTest(unittest.TestCase):
    def test_no_steps(self):
        for seed in range(9):
            house = draw_house(seed, 3)
            start, player = draw_start(seed, house), draw_player(seed, house)
            self.assertEqual(way_chance(house, start, player, ()), ONE)
            self.assertEqual(box_of(house, start, player, ()), ((NIL, ONE),))
            self.assertEqual(way_pays(house, ()), (NIL,) * house[1])
            self.assertEqual(count_ways(house, start, player, 0), 1)
            self.assertEqual(ways(house, start, player, 0), (((), ONE),))

    def test_chance_of_nought(self):
        for start, player, way in (
            ((ONE, NIL), STILL, ((1, 0, 0),)), ((ONE, NIL), ("still", ((ONE, NIL), (ONE,))), ((0, 1, 0),)),
            ((NIL, ONE), ("still", ((ONE, NIL), (ONE,))), ((1, 0, 0), (0, 1, 0))),
            ((ONE, NIL), ("told", ((((0, 0, 0), (ONE, NIL)),), TOSSED)), ((0, 0, 0), (0, 1, 0))),
        ):
            self.assertEqual(way_chance(SHOP, start, player, way), NIL)
            self.assertIsNone(box_of(SHOP, start, player, way))
        self.assertEqual(way_chance(COIN, (ONE,), ("minded", TURNS), ((0, 0, 0), (0, 1, 0), (0, 0, 0))), ONE)
        self.assertIsNone(box_of(COIN, (ONE,), ("minded", TURNS), ((0, 0, 0), (0, 0, 0))))

    def test_no_ways(self):
        start = (ONE, NIL)
        wrong = [(value, None) for value in (None, True, 5, "ab", [], {}, [(0, 0, 0)], ((0, 0, 0),) * 61)]
        wrong += [
            ((None,), 0), (((0, 0),), 0), (((0, 0, 0, 0),), 0), (((0, 1, 1),), 0), (((0, 2, 0),), 0), (((2, 0, 0),), 0),
            (((-1, 0, 0),), 0), (((0, -1, 0),), 0), (((False, 0, 0),), 0), (((0, False, 0),), 0), (((0, 0, False),), 0),
            (((0, 0, 0), (1, 0, 0)), 1), (((0, 0, 1), (0, 0, 0)), 1), (((0, 0, 1), (1, 0, 0), (1, 0, 0)), 2), ((0, 0, 0), 0),
            (((0, 0, 0), [0, 0, 0]), 1), (((0, 0, 0),) * 59 + (None,), 59), (((0, 0, 1), (1, 0, 1)), 1), (((0, 0, "0"),), 0),
        ]
        wrong += [(value, None if not isinstance(value, tuple) or value == () else 0) for value in strange_values() if value != ()]
        for value, at in wrong:
            for call, ahead in ((way_chance, (SHOP, start, STILL)), (box_of, (SHOP, start, STILL)), (way_pays, (SHOP,))):
                with self.assertRaises(InvalidWay, msg=value) as caught:
                    call(*ahead, value)
                self.assertEqual(caught.exception.index, at, value)
        self.assertEqual(way_pays(SHOP, ((0, 1, 0),) * 60)[1], way_pays(SHOP, ((0, 1, 0),) * 60)[0])

    def test_all_ways_beside_going_by_hand(self):
        seen = 0
        for seed in range(60):
            house = draw_house(seed, 1 + seed % 3, 2)
            start, player = draw_start(seed, house), draw_player(seed, house)
            for many in range(1, 5):
                gone = gone_ways(house, start, player, many)
                self.assertEqual(count_ways(house, start, player, many), len(gone))
                if len(gone) > 400:
                    with self.assertRaises(TooMany) as caught:
                        ways(house, start, player, many)
                    self.assertEqual(caught.exception.given, len(gone))
                    seen += 1
                    continue
                told = ways(house, start, player, many)
                self.assertEqual(told, tuple((way, pair(gone[way])) for way in sorted(gone)))
                self.assertEqual(sum(number(chance) for _, chance in told), 1)
                sums = [Fraction(0)] * house[1]
                for way, chance in told:
                    self.assertEqual(way_chance(house, start, player, way), chance)
                    self.assertEqual(row(way_pays(house, way)), gains_on(house, way))
                    sums = [one + number(chance) * number(two) for one, two in zip(sums, way_pays(house, way))]
                self.assertEqual(sums, row(player_steps(house, start, player, many)))
        self.assertGreater(seen, 1)

    def test_many_steps_with_few_ways(self):
        # Two ways on from stand 0 with the told memories alone, one way afterwards.
        told = ("told", ((((0,), (HALF, HALF)), ((0, 1, 0, 1, 0), (HALF, HALF))), ((NIL, ONE), (ONE,))))
        for many in (1, 2, 3, 7, 20):
            found = ways(SHOP, (ONE, NIL), told, many)
            self.assertEqual(sum(number(chance) for _, chance in found), 1)
            self.assertEqual(len(found), count_ways(SHOP, (ONE, NIL), told, many))
            self.assertTrue(all(len(way) == many for way, _ in found))
            sums = [sum(number(chance) * number(way_pays(SHOP, way)[pay]) for way, chance in found) for pay in range(2)]
            self.assertEqual(sums, row(player_steps(SHOP, (ONE, NIL), told, many)))

    def test_how_many_ways(self):
        two = (HALF, 1, (((((0, ONE),), (ONE,)), (((0, ONE),), (NIL,))),))
        player = ("still", ((HALF, HALF),))
        for many in (0, 1, 8, 20, 60):
            self.assertEqual(count_ways(two, (ONE,), player, many), 2 ** many)
        self.assertEqual(len(ways(two, (ONE,), player, 8)), 256)
        with self.assertRaises(TooMany) as caught:
            ways(two, (ONE,), player, 9)
        self.assertEqual(caught.exception.given, 512)
        with self.assertRaises(TooMany) as caught:
            ways(two, (ONE,), player, 20)
        self.assertEqual(caught.exception.given, 2 ** 20)
        # Just 400 ways are told: twenty times twenty.
        deeds = tuple((((at, ONE),), (NIL,)) for at in range(4))
        house = (HALF, 1, (deeds[:4],) * 5 + (deeds[:1],))
        start = (pair(Fraction(1, 5)),) * 5 + (NIL,)
        still = ("still", ((QUARTER,) * 4,) * 5 + ((ONE,),))
        self.assertEqual(count_ways(house, start, still, 1), 20)
        mixed = ("told", (tuple(((at,), (QUARTER,) * 4) for at in range(5)), ((QUARTER,) * 4,) * 5 + ((ONE,),)))
        self.assertEqual(count_ways(house, start, mixed, 3), 320)
        five = (HALF, 1, (((tuple((at, pair(Fraction(1, 5))) for at in range(5)), (NIL,)),) * 4,) * 5)
        told = ("told", (tuple(((at,), (QUARTER,) * 4) for at in range(5)), ((ONE, NIL, NIL, NIL),) * 5))
        self.assertEqual(count_ways(five, start[:5], told, 2), 500)
        self.assertEqual(len(ways(five, (ONE, NIL, NIL, NIL, NIL), told, 2)), 100)
        exact = ("still", ((HALF, HALF, NIL, NIL),) * 5)
        self.assertEqual(count_ways(five, (HALF, HALF, NIL, NIL, NIL), exact, 2), 200)
        all_four = (HALF, HALF, NIL, NIL, NIL), ("told", ((((0,), (QUARTER,) * 4), ((1,), (QUARTER,) * 4)), exact[1]))
        self.assertEqual(count_ways(five, *all_four, 2), 400)
        self.assertEqual(len(ways(five, *all_four, 2)), 400)
        # One stand more, from which one way goes on, makes 401.
        six = (HALF, 1, five[2] + (((((5, ONE),), (NIL,)),),))
        begun, more = (QUARTER, QUARTER, NIL, NIL, NIL, HALF), ("told", (all_four[1][1][0], exact[1] + ((ONE,),)))
        self.assertEqual(count_ways(six, begun, more, 2), 401)
        with self.assertRaises(TooMany) as caught:
            ways(six, begun, more, 2)
        self.assertEqual(caught.exception.given, 401)

    def test_how_many_steps(self):
        start = (ONE, NIL)
        for wrong in (-1, 61, None, True, False, "3", (3,), (3, 1), 10 ** 399):
            with self.assertRaises(InvalidNumber) as caught:
                count_ways(SHOP, start, STILL, wrong)
            self.assertIs(caught.exception.given, wrong)
        for wrong in (-1, 21, 60, None, True, "3", (3, 1)):
            with self.assertRaises(InvalidNumber) as caught:
                ways(SHOP, start, STILL, wrong)
            self.assertIs(caught.exception.given, wrong)

    def test_ways_are_logs(self):
        source = random.Random(7)
        for seed in range(12):
            house = draw_house(seed, 3)
            way = run(house, draw_start(seed, house), draw_player(seed, house), draw_dice(source, 30))
            told = counts_of(sketch_of(house), way)
            self.assertEqual(sum(done for stand in told for done, _ in stand), 30)

    def test_a_share_of_nought_counts_the_first_step(self):
        house = (NIL, *SHOP[1:])
        self.assertEqual(way_pays(house, ((0, 1, 0), (0, 0, 1), (1, 0, 0))), (ONE, ONE))
        for seed in range(3):
            player = draw_player(seed, house)
            self.assertEqual(player_pays(house, (ONE, NIL), player), player_steps(house, (ONE, NIL), player, 20))


if __name__ == "__main__":
    unittest.main()
