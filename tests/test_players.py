"""Points [43], [44] and players.py."""

import random
import unittest
from fractions import Fraction

from deedhouses.bounds import is_reason, keep
from deedhouses.errors import InvalidHouse, InvalidNumber, InvalidPlayer, InvalidStart
from deedhouses.plans import is_minded, is_still, minded_of, still_of
from deedhouses.players import is_player, is_told, player_pays, player_shares, player_steps
from deedhouses.shares import are_shares, minded_shares, pays_of_shares, shares_of, still_of_shares
from deedhouses.worths import minded_pays, minded_steps, pays_of, steps_of
from tests.goings import draw_memory, draw_player, draw_told, gone_steps, gone_ways, rolled
from tests.helpers import (
    COIN, HALF, NIL, ONE, SHOP, TOSSED, TURNS, TWO, are_chances_of_one, bent, draw_house, draw_minded,
    draw_start, draw_still, number, pair, row, strange_values,
)

WORKS = still_of(SHOP, (0, 0))
LATER = ("told", ((((0,), (NIL, ONE)), ((0, 1, 0), (ONE, NIL))), WORKS))


def is_memory_too(house, value):
    """Whether a value is a memory, by [43]'s words."""
    if type(value) is not tuple or len(value) not in (1, 3, 5, 7, 9) or any(type(each) is not int for each in value):
        return False
    for at, each in enumerate(value):
        if at == 0 and not 0 <= each < len(house[2]):
            return False
        if at % 2 == 1 and not 0 <= each < len(house[2][value[at - 1]]):
            return False
        if at > 0 and at % 2 == 0 and each not in [to for to, _ in house[2][value[at - 2]][value[at - 1]][0]]:
            return False
    return True


def is_told_too(house, value):
    """Whether a value is a told plan, by [43]'s words."""
    if type(value) is not tuple or len(value) != 2 or type(value[0]) is not tuple or len(value[0]) > 32:
        return False
    memories = []
    for each in value[0]:
        if type(each) is not tuple or len(each) != 2 or not is_memory_too(house, each[0]):
            return False
        if not are_chances_of_one(each[1], len(house[2][each[0][-1]])):
            return False
        memories.append(each[0])
    return memories == sorted(set(memories)) and is_still(house, value[1])


def is_player_too(house, value):
    if type(value) is not tuple or len(value) != 2 or type(value[0]) is not str:
        return False
    known = {"still": is_still, "minded": is_minded, "told": is_told_too}
    return value[0] in known and known[value[0]](house, value[1])


class KindTest(unittest.TestCase):
    def test_examples(self):
        self.assertIs(is_told(SHOP, LATER[1]), True)
        self.assertIs(is_player(SHOP, LATER), True)
        self.assertIs(is_player(SHOP, ("told", WORKS)), False)
        self.assertEqual(player_pays(SHOP, (ONE, NIL), LATER), ((13, 5), ONE))
        self.assertEqual(player_shares(SHOP, (ONE, NIL), LATER), (((4, 5), ONE), ((1, 5),)))
        self.assertEqual(player_steps(SHOP, (ONE, NIL), ("still", TOSSED), 1), ((3, 2), HALF))
        self.assertEqual(player_pays(COIN, (ONE,), ("minded", TURNS)), ((8, 3), (4, 3)))

    def test_memories_by_hand(self):
        for memory, is_one in (
            ((0,), True), ((1,), True), ((2,), False), ((-1,), False), ((), False), ((0, 0), False), ((0, 0, 1), True),
            ((0, 1, 1), False), ((0, 2, 0), False), ((1, 0, 0), True), ((1, 0, 1), False), ((0, 0, 0, 1), False),
            ((0, 1, 0, 1, 0, 1, 0, 1, 0), True), ((0, 1, 0, 1, 0, 1, 0, 1, 0, 1), False), ((True,), False), ((0, False, 0), False),
            ((0, 1, 0, 1, 0, 1, 0, 1, 0, 1, 0), False), (0, False), ([0], False), ((0, 0, True), False), ((0, -1, 0), False),
            ((0, 0, 0, 0, 0, 0, 0, 0, 1), True), ((0, 0, 0, 0, 0, 0, 0, 1, 1), False), (((0,),), False), (("0",), False),
        ):
            told = []
            for odds in ((ONE,), (HALF, HALF)):
                told.append(is_told(SHOP, (((memory, odds),), WORKS)))
                self.assertIs(is_player(SHOP, ("told", (((memory, odds),), WORKS))), told[-1], memory)
            self.assertEqual(told, [is_one and memory[-1] == 1, is_one and memory[-1] == 0], memory)

    def test_order_and_number_of_memories(self):
        odds = (HALF, HALF)
        one, two, three = ((0,), odds), ((0, 0, 0), odds), ((0, 1, 0), odds)
        for lists, is_right in (
            ((), True), ((one, two, three), True), ((two, one), False), ((one, one), False), ((one, three, two), False),
            ((one, three), True), ((one, ((0,), (ONE, NIL))), False), ((one, None), False), ([one], False), (one, False),
        ):
            self.assertIs(is_told(SHOP, (lists, WORKS)), is_right, lists)
        source = random.Random(3)
        memories = set()
        while len(memories) < 33:
            memories.add(draw_memory(source, SHOP, source.randint(1, 4)))
        many = tuple((each, (HALF, HALF) if each[-1] == 0 else (ONE,)) for each in sorted(memories))
        self.assertIs(is_told(SHOP, (many[:32], WORKS)), True)
        self.assertIs(is_told(SHOP, (many[1:], WORKS)), True)
        self.assertIs(is_told(SHOP, (many, WORKS)), False)

    def test_odds_and_words_of_another_kind(self):
        self.assertIs(is_told(SHOP, ((((0,), (ONE,)),), WORKS)), False)
        self.assertIs(is_told(SHOP, ((((1,), (HALF, HALF)),), WORKS)), False)
        self.assertIs(is_told(SHOP, ((((0,), (HALF, ONE)),), WORKS)), False)
        self.assertIs(is_told(SHOP, ((((0,), (HALF, HALF), 0),), WORKS)), False)
        minded = minded_of(SHOP, TOSSED)
        for kind, plan in (("still", TOSSED), ("minded", minded), ("told", LATER[1])):
            for word in ("still", "minded", "told", "Still", b"still", "", None, 0, ("still",)):
                self.assertIs(is_player(SHOP, (word, plan)), word == kind, (word, kind))
            self.assertIs(is_player(SHOP, [kind, plan]), False)
            self.assertIs(is_player(SHOP, (kind, plan, plan)), False)
            self.assertIs(is_player(SHOP, plan), False)

    def test_values_bent_at_any_depth(self):
        told = ("told", ((((0,), (NIL, ONE)), ((0, 0, 1), (ONE,)), ((0, 1, 0), (ONE, NIL))), TOSSED))
        for player in (told, ("still", TOSSED), ("minded", minded_of(SHOP, TOSSED)), LATER):
            right = 0
            for value in bent(player):
                self.assertIs(is_player(SHOP, value), is_player_too(SHOP, value), value)
                right += is_player_too(SHOP, value)
            self.assertLess(right, 40)
        for value in bent(told[1]):
            self.assertIs(is_told(SHOP, value), is_told_too(SHOP, value), value)
        for value in strange_values():
            self.assertIs(is_player(SHOP, value), False)
            self.assertIs(is_told(SHOP, value), False)
            for kind in ("still", "minded", "told"):
                self.assertIs(is_player(SHOP, (kind, value)), False)
            self.assertIs(is_told(SHOP, (value, WORKS)), value == ())

    def test_drawn_ones_are_players(self):
        for seed in range(30):
            house = draw_house(seed, 1 + seed % 4)
            self.assertIs(is_player(house, draw_player(seed, house)), True)


class PaysTest(unittest.TestCase):
    def test_steps_beside_all_that_may_have_been(self):
        for seed in range(45):
            house = draw_house(seed, 1 + seed % 3, 2)
            start, player = draw_start(seed, house), draw_player(seed, house)
            for many in range(5):
                self.assertEqual(row(player_steps(house, start, player, many)), gone_steps(house, start, player, many))

    def test_steps_beside_going_on(self):
        for seed in range(24):
            house = draw_house(seed, 1 + seed % 3, 3)
            start, player = draw_start(seed, house), draw_player(seed, house)
            for many in (0, 1, 4, 5, 6, 7, 13):
                self.assertEqual(row(player_steps(house, start, player, many)), rolled(house, start, player, many), (seed, many))
        for seed in range(3):
            house = draw_house(seed, 2, 2, share=(1, 2))
            start, player = draw_start(seed, house), draw_player(seed, house)
            self.assertEqual(row(player_steps(house, start, player, 60)), rolled(house, start, player, 60))

    def test_still_and_minded_players_are_the_plans(self):
        for seed in range(20):
            house = draw_house(seed, 1 + seed % 4)
            start, still, minded = draw_start(seed, house), draw_still(seed, house), draw_minded(seed, house, 1 + seed % 4)
            self.assertEqual(player_pays(house, start, ("still", still)), pays_of(house, start, still))
            self.assertEqual(player_shares(house, start, ("still", still)), shares_of(house, start, still))
            self.assertEqual(player_pays(house, start, ("minded", minded)), minded_pays(house, start, minded))
            self.assertEqual(player_shares(house, start, ("minded", minded)), minded_shares(house, start, minded))
            for many in (0, 3, 11):
                self.assertEqual(player_steps(house, start, ("still", still), many), steps_of(house, start, still, many))
                self.assertEqual(player_steps(house, start, ("minded", minded), many), minded_steps(house, start, minded, many))
            # One mind, and nothing that is remembered, does the same.
            for other in (("minded", minded_of(house, still)), ("told", ((), still))):
                self.assertEqual(player_pays(house, start, other), pays_of(house, start, still))
                self.assertEqual(player_shares(house, start, other), shares_of(house, start, still))
                self.assertEqual(player_steps(house, start, other, 9), steps_of(house, start, still, 9))

    def test_told_shares_step_by_step(self):
        for seed in range(30):
            house = draw_house(seed, 1 + seed % 3, 2)
            start, told = draw_start(seed, house), draw_told(seed, house)
            share = number(house[0])
            sums = [[Fraction(0)] * len(stand) for stand in house[2]]
            behind = [Fraction(0)] * len(house[2])
            for way, chance in gone_ways(house, start, ("told", told), 5).items():
                for step, (at, deed, _) in enumerate(way):
                    sums[at][deed] += share ** step * chance
                behind[way[-1][2]] += chance
            rest = shares_of(house, tuple(pair(each) for each in behind), told[1])
            expected = [[one + share ** 5 * number(two) for one, two in zip(own, more)] for own, more in zip(sums, rest)]
            shares = player_shares(house, start, ("told", told))
            self.assertEqual([row(each) for each in shares], expected)
            self.assertIs(are_shares(house, start, shares), True)
            pays = player_pays(house, start, ("told", told))
            self.assertEqual(pays, pays_of_shares(house, start, shares))
            still = still_of_shares(house, start, shares)
            self.assertEqual(pays_of(house, start, still), pays)
            # What the first steps leave out is bounded.
            for pay in range(house[1]):
                most = max(abs(number(deed[1][pay])) for stand in house[2] for deed in stand)
                for many in (0, 3, 12):
                    left = abs(number(pays[pay]) - number(player_steps(house, start, ("told", told), many)[pay]))
                    self.assertLessEqual(left, share ** many * most / (1 - share))

    def test_a_memory_of_nine_elements_and_none_that_is_longer(self):
        # Four times the first deed, then the other one, then the first one for ever.
        house = (HALF, 1, (((((0, ONE),), (ONE,)), (((0, ONE),), (NIL,))),))
        told = ((((0, 0, 0, 0, 0, 0, 0, 0, 0), (NIL, ONE)),), ((ONE, NIL),))
        self.assertEqual(player_pays(house, (ONE,), ("told", told)), (pair(2 - Fraction(1, 16)),))
        self.assertEqual(player_steps(house, (ONE,), ("told", told), 5), (pair(Fraction(15, 8)),))
        self.assertEqual(player_steps(house, (ONE,), ("told", told), 6), (pair(Fraction(15, 8) + Fraction(1, 32)),))
        # What is told of a memory that can't come does not matter.
        never = ((((0, 1, 0), (NIL, ONE)),), ((ONE, NIL),))
        self.assertEqual(player_pays(house, (ONE,), ("told", never)), (TWO,))

    def test_bounds_at_these_pays_and_reasons(self):
        source = random.Random(9)
        for seed in range(20):
            house = draw_house(seed, 1 + seed % 3)
            start, player = draw_start(seed, house), draw_player(seed + 2, house)
            pays = player_pays(house, start, player)
            self.assertEqual(keep(house, start, pays)[0], "kept")
            bounds = tuple(pair(number(each) + Fraction(source.randint(0, 6), 2)) for each in pays)
            found = keep(house, start, bounds)
            if found[0] == "not kept":
                self.assertIs(is_reason(house, start, bounds, found[1:]), True)
                self.assertFalse(all(number(one) >= number(two) for one, two in zip(pays, bounds)))

    def test_share_of_nought(self):
        house = draw_house(5, 3, 3, share=NIL)
        start = draw_start(5, house)
        for seed in range(6):
            player = draw_player(seed, house)
            self.assertEqual(player_pays(house, start, player), player_steps(house, start, player, 1))
            self.assertEqual(player_pays(house, start, player), player_steps(house, start, player, 60))

    def test_errors_in_order(self):
        for call, more in ((player_pays, ()), (player_shares, ()), (player_steps, (61,))):
            with self.assertRaises(InvalidHouse):
                call(5, 5, 5, *more)
            with self.assertRaises(InvalidStart):
                call(SHOP, (ONE, ONE), 5, *more)
            wrong = ("told", WORKS)
            with self.assertRaises(InvalidPlayer) as caught:
                call(SHOP, (ONE, NIL), wrong, *more)
            self.assertIs(caught.exception.given, wrong)
        for many in (-1, 61, None, True, "3", (3, 1)):
            with self.assertRaises(InvalidNumber) as caught:
                player_steps(SHOP, (ONE, NIL), LATER, many)
            self.assertIs(caught.exception.given, many)


if __name__ == "__main__":
    unittest.main()
