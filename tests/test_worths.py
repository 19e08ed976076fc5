"""Point [8] and worths.py."""

import unittest
from fractions import Fraction

from deedhouses.errors import InvalidNumber
from deedhouses.plans import minded_of, still_of
from deedhouses.worths import minded_pays, minded_steps, pays_of, steps_of, worths_of
from tests.helpers import (
    COIN, HALF, HUGE, NIL, ONE, SHOP, TURNS, draw_house, draw_minded, draw_start, draw_still, is_plain_fraction, number,
    plain_pays, row,
)


def walked(house, start, minded, many):
    """The pays of so many steps, one step behind the other, for a minded plan."""
    share, pays, stands = number(house[0]), house[1], house[2]
    _, odds, turns = minded
    now = {(at, 0): chance for at, chance in enumerate(row(start))}
    got, power = [Fraction(0)] * pays, Fraction(1)
    for _ in range(many):
        later = {}
        for (at, mind), chance in now.items():
            for deed, (chances, gains) in enumerate(stands[at]):
                part = chance * number(odds[at][mind][deed])
                if part == 0:
                    continue
                got = [one + power * part * number(gain) for one, gain in zip(got, gains)]
                for to, each in chances:
                    key = (to, turns[at][deed][mind])
                    later[key] = later.get(key, 0) + part * number(each)
        now = later
        power *= share
    return got


def left_out(house, pay, many):
    """The limit of [8] for what so many steps leave out."""
    share = number(house[0])
    size = max(abs(number(deed[1][pay])) for stand in house[2] for deed in stand)
    return share ** many * size / (1 - share)


class WorthsTest(unittest.TestCase):
    def test_examples(self):
        self.assertEqual(worths_of(SHOP, still_of(SHOP, (0, 0))), (((16, 5), (0, 1)), ((8, 5), (0, 1))))
        self.assertEqual(worths_of(SHOP, still_of(SHOP, (1, 0))), (((2, 1), (2, 1)), ((1, 1), (1, 1))))
        self.assertEqual(pays_of(COIN, (ONE,), ((HALF, HALF),)), ((2, 1), (2, 1)))
        self.assertEqual(steps_of(COIN, (ONE,), ((HALF, HALF),), 2), ((3, 2), (3, 2)))
        self.assertEqual(minded_pays(COIN, (ONE,), TURNS), ((8, 3), (4, 3)))
        self.assertEqual(minded_steps(COIN, (ONE,), TURNS, 3), ((5, 2), (1, 1)))

    def test_worths_answer_the_equations(self):
        for seed in range(80):
            house = draw_house(seed, 1 + seed % 8, 4, 1 + seed % 4)
            still = draw_still(seed, house)
            worths = worths_of(house, still)
            self.assertIs(type(worths), tuple)
            for at, stand in enumerate(house[2]):
                self.assertIs(type(worths[at]), tuple)
                for pay in range(house[1]):
                    self.assertTrue(is_plain_fraction(worths[at][pay]))
                    right = Fraction(0)
                    for odd, (chances, gains) in zip(still[at], stand):
                        behind = sum(number(chance) * number(worths[to][pay]) for to, chance in chances)
                        right += number(odd) * (number(gains[pay]) + number(house[0]) * behind)
                    self.assertEqual(number(worths[at][pay]), right)

    def test_pays_are_the_mean_of_worths(self):
        for seed in range(40):
            house = draw_house(seed, 1 + seed % 6, 3, 1 + seed % 4)
            start, still = draw_start(seed, house), draw_still(seed, house)
            worths = worths_of(house, still)
            pays = pays_of(house, start, still)
            self.assertIs(type(pays), tuple)
            for pay in range(house[1]):
                self.assertTrue(is_plain_fraction(pays[pay]))
                self.assertEqual(number(pays[pay]), sum(c * number(w[pay]) for c, w in zip(row(start), worths)))

    def test_share_of_nought(self):
        house = draw_house(3, 4, 3, 3, share=NIL)
        start, still = draw_start(1, house), draw_still(1, house)
        once = steps_of(house, start, still, 1)
        self.assertEqual(pays_of(house, start, still), once)
        self.assertEqual(row(once), walked(house, start, minded_of(house, still), 1))
        self.assertEqual(steps_of(house, start, still, 60), once)
        self.assertEqual(steps_of(house, start, still, 0), (NIL,) * 3)

    def test_steps(self):
        for seed in range(30):
            house = draw_house(seed, 1 + seed % 4, 3, 1 + seed % 4)
            start, still = draw_start(seed, house), draw_still(seed, house)
            whole = row(pays_of(house, start, still))
            for many in (0, 1, 2, 3, 7):
                told = steps_of(house, start, still, many)
                self.assertEqual(row(told), walked(house, start, minded_of(house, still), many))
                for pay in range(house[1]):
                    self.assertLessEqual(abs(whole[pay] - number(told[pay])), left_out(house, pay, many))

    def test_sixty_steps(self):
        for seed in range(4):
            house = draw_house(seed, 3, 3, 2, share=((1, 2), (9, 10), (0, 1), (1, 3))[seed])
            start, still = draw_start(seed, house), draw_still(seed, house)
            minded = draw_minded(seed, house, 3)
            for told, plan, whole in (
                (steps_of(house, start, still, 60), minded_of(house, still), pays_of(house, start, still)),
                (minded_steps(house, start, minded, 60), minded, minded_pays(house, start, minded)),
            ):
                self.assertEqual(row(told), walked(house, start, plan, 60))
                for pay in range(2):
                    self.assertLessEqual(abs(number(whole[pay]) - number(told[pay])), left_out(house, pay, 60))

    def test_numbers_of_steps(self):
        still = ((HALF, HALF),)
        for many in (-1, 61, True, False, None, "1", (1,), (1, 1), [1], 10 ** 300, {}):
            for call, plan in ((steps_of, still), (minded_steps, TURNS)):
                with self.assertRaises(InvalidNumber) as caught:
                    call(COIN, (ONE,), plan, many)
                self.assertIs(caught.exception.given, many)

    def test_one_mind_is_a_still_plan(self):
        for seed in range(30):
            house = draw_house(seed, 1 + seed % 5, 3, 1 + seed % 3)
            start, still = draw_start(seed, house), draw_still(seed, house)
            minded = minded_of(house, still)
            self.assertEqual(minded_pays(house, start, minded), pays_of(house, start, still))
            for many in (0, 1, 5):
                self.assertEqual(minded_steps(house, start, minded, many), steps_of(house, start, still, many))

    def test_changing_minds(self):
        for seed in range(30):
            house = draw_house(seed, 1 + seed % 4, 3, 2, share=((1, 2), (1, 3), NIL)[seed % 3])
            start = draw_start(seed, house)
            minded = draw_minded(seed, house, 1 + seed % 4)
            whole = row(minded_pays(house, start, minded))
            for many in (0, 1, 2, 6):
                told = minded_steps(house, start, minded, many)
                self.assertEqual(row(told), walked(house, start, minded, many))
                for pay in range(2):
                    self.assertTrue(is_plain_fraction(told[pay]))
                    self.assertLessEqual(abs(whole[pay] - number(told[pay])), left_out(house, pay, many))
            near = walked(house, start, minded, 40)
            for pay in range(2):
                self.assertLessEqual(abs(whole[pay] - near[pay]), left_out(house, pay, 40))

    def test_numbers_of_some_hundred_figures(self):
        tiny = (1, 10 ** 390)
        rest = (10 ** 390 - 1, 10 ** 390)
        house = (rest, 2, (
            ((((0, tiny), (1, rest)), (HUGE, (-7, 10 ** 380))), (((1, ONE),), (NIL, HUGE))),
            ((((0, rest), (1, tiny)), ((-3, 1), tiny)),),
        ))
        start, still = (tiny, rest), ((rest, tiny), (ONE,))
        self.assertEqual(row(pays_of(house, start, still)), plain_pays(house, start, still))
        self.assertEqual(row(steps_of(house, start, still, 9)), walked(house, start, minded_of(house, still), 9))


if __name__ == "__main__":
    unittest.main()
