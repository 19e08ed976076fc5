"""Points [15] to [18] and goals.py."""

import random
import unittest
from fractions import Fraction

from deedhouses.goals import (
    certain_stands, coming_of, greatest_coming, is_goal_row, least_coming, ranks_of, sure_stands,
)
from deedhouses.plans import is_choice
from tests.helpers import (
    HALF, HUGE, NIL, ONE, all_choices, answers, bent, draw_house, is_plain_fraction, number, row, strange_values,
)

MAZE = (HALF, 1, (
    ((((1, HALF), (2, HALF)), (NIL,)), (((0, ONE),), (NIL,))),
    ((((1, ONE),), (NIL,)),),
    ((((2, ONE),), (NIL,)),),
))
TRIES = (HALF, 1, (((((0, HALF), (1, HALF)), (NIL,)), (((1, ONE),), (NIL,))), ((((1, ONE),), (NIL,)),)))


def coming(house, goals, choice):
    """The chances of coming by [15]'s equations, in another way than the package's."""
    many = len(house[2])
    moves = [dict(stand[deed][0]) for stand, deed in zip(house[2], choice)]
    able = {(at, at) for at in range(many)} | {(at, to) for at in range(many) for to in moves[at]}
    for middle in range(many):
        for at in range(many):
            for to in range(many):
                if (at, middle) in able and (middle, to) in able:
                    able.add((at, to))
    matrix, rights = [], []
    for at in range(many):
        line = [Fraction(int(to == at)) for to in range(many)]
        right = Fraction(int(at in goals))
        if at not in goals and any((at, goal) in able for goal in goals):
            for to, chance in moves[at].items():
                line[to] -= number(chance)
        matrix.append(line)
        rights.append(right)
    return answers(matrix, rights)


def ranks(house, goals, least):
    """Ranks by passing over all stands until nothing falls."""
    far = 100
    told = [0 if at in goals or least[at] == 0 else far for at in range(len(house[2]))]
    for _ in range(len(told) + 1):
        for at, stand in enumerate(house[2]):
            if told[at] > 0:
                told[at] = min(told[at], 1 + max(min(told[to] for to, _ in chances) for chances, _ in stand))
    return told


def drawn_cases(many):
    for seed in range(many):
        source = random.Random(seed)
        stands = 1 + seed % 5
        house = draw_house(seed, stands, 3, 1, alike=seed % 4 == 0)
        if seed % 3:
            # Few ways on, so that many stands never come, or come for sure, or are left at a stand without a way out.
            house = narrowed(source, house, seed % 3 == 2)
        able = max(1, stands - 1)
        goals = tuple(sorted(source.sample(range(able), source.randint(1, max(1, able // 2)))))
        yield house, goals


def narrowed(source, house, has_end):
    stands = []
    for at, stand in enumerate(house[2]):
        made = []
        for chances, gains in stand:
            if has_end and at == len(house[2]) - 1:
                chances = ((at, ONE),)
            elif source.random() < 0.4:
                chances = ((source.choice(chances)[0], ONE),)
            made.append((chances, gains))
        stands.append(tuple(made))
    return house[0], house[1], tuple(stands)


class GoalsTest(unittest.TestCase):
    def test_examples(self):
        self.assertEqual(coming_of(MAZE, (1,), (0, 0, 0)), ((1, 2), (1, 1), (0, 1)))
        self.assertEqual(coming_of(MAZE, (1,), (1, 0, 0)), ((0, 1), (1, 1), (0, 1)))
        self.assertEqual(greatest_coming(MAZE, (1,))[0], ((1, 2), (1, 1), (0, 1)))
        self.assertEqual(greatest_coming(MAZE, (1,))[1], (0, 0, 0))
        self.assertEqual(least_coming(MAZE, (1,)), (((0, 1), (1, 1), (0, 1)), (1, 0, 0)))
        self.assertEqual(least_coming(TRIES, (1,))[0], ((1, 1), (1, 1)))
        self.assertEqual(ranks_of(TRIES, (1,)), (1, 0))
        self.assertEqual(ranks_of(MAZE, (1,)), (0, 0, 0))
        self.assertEqual(sure_stands(MAZE, (1,)), (1,))
        self.assertEqual(certain_stands(TRIES, (1,)), (0, 1))

    def test_chances_of_coming(self):
        for house, goals in drawn_cases(60):
            for choice in all_choices(house):
                told = coming_of(house, goals, choice)
                self.assertIs(type(told), tuple)
                self.assertTrue(all(is_plain_fraction(each) for each in told))
                self.assertEqual(row(told), coming(house, goals, choice))

    def test_loops(self):
        # Stand 0 and 1 lead to each other; from 2 one comes back to itself with a way out to 3.
        house = (NIL, 1, (
            ((((1, ONE),), (NIL,)),), ((((0, ONE),), (NIL,)),),
            ((((2, (99, 100)), (3, (1, 100))), (NIL,)), (((2, ONE),), (NIL,))), ((((0, ONE),), (NIL,)),),
        ))
        self.assertEqual(coming_of(house, (3,), (0, 0, 0, 0)), (NIL, NIL, ONE, ONE))
        self.assertEqual(coming_of(house, (3,), (0, 0, 1, 0)), (NIL, NIL, NIL, ONE))
        self.assertEqual(coming_of(house, (0,), (0, 0, 0, 0)), (ONE, ONE, ONE, ONE))
        self.assertEqual(coming_of(house, (0, 1, 2, 3), (0, 0, 1, 0)), (ONE, ONE, ONE, ONE))
        self.assertEqual(sure_stands(house, (3,)), (2, 3))
        self.assertEqual(certain_stands(house, (3,)), (3,))
        self.assertEqual(ranks_of(house, (3,)), (0, 0, 0, 0))
        self.assertEqual(ranks_of(house, (1,)), (1, 0, 0, 2))

    def test_greatest_and_least_beside_all_choices(self):
        between = 0
        for house, goals in drawn_cases(240):
            lists = [coming(house, goals, choice) for choice in all_choices(house)]
            for call, pick in ((greatest_coming, max), (least_coming, min)):
                told, choice = call(house, goals)
                self.assertEqual(row(told), [pick(each) for each in zip(*lists)])
                self.assertTrue(is_choice(house, choice))
                self.assertEqual(coming(house, goals, choice), row(told))
                self.assertTrue(all(is_plain_fraction(each) for each in told))
                between += any(0 < number(each) < 1 for each in told)
            greatest, least = ([pick(each) for each in zip(*lists)] for pick in (max, min))
            self.assertEqual(sure_stands(house, goals), tuple(at for at, each in enumerate(greatest) if each == 1))
            self.assertEqual(certain_stands(house, goals), tuple(at for at, each in enumerate(least) if each == 1))
        self.assertGreater(between, 30)

    def test_ranks(self):
        highest = 0
        for house, goals in drawn_cases(240):
            lists = [coming(house, goals, choice) for choice in all_choices(house)]
            told = ranks_of(house, goals)
            self.assertEqual(list(told), ranks(house, goals, [min(each) for each in zip(*lists)]))
            self.assertTrue(all(type(each) is int for each in told))
            highest = max(highest, *told)
        self.assertGreater(highest, 1)

    def test_a_long_way(self):
        stands = tuple(((((at + 1, ONE),), (NIL,)),) for at in range(7)) + (((((7, ONE),), (NIL,)),),)
        self.assertEqual(ranks_of((HALF, 1, stands), (7,)), (7, 6, 5, 4, 3, 2, 1, 0))
        self.assertEqual(certain_stands((HALF, 1, stands), (7,)), tuple(range(8)))
        self.assertEqual(ranks_of((HALF, 1, stands), (0,)), (0,) * 8)

    def test_two_turns_on_the_way_to_the_greatest(self):
        # From 0 the first deed loops; only from 1's second deed on the goal is likely.
        house = (HALF, 1, (
            ((((0, ONE),), (NIL,)), (((1, ONE),), (NIL,))),
            ((((3, ONE),), (NIL,)), (((2, HALF), (3, HALF)), (NIL,))),
            ((((2, ONE),), (NIL,)),), ((((3, ONE),), (NIL,)),),
        ))
        self.assertEqual(greatest_coming(house, (2,)), ((HALF, HALF, ONE, NIL), (1, 1, 0, 0)))
        self.assertEqual(least_coming(house, (3,)), ((NIL, HALF, NIL, ONE), (0, 1, 0, 0)))

    def test_share_and_gains_do_not_count(self):
        for house, goals in drawn_cases(10):
            other = ((9, 10), 1, tuple(tuple((chances, ((7, 3),)) for chances, _ in stand) for stand in house[2]))
            for call in (greatest_coming, least_coming, ranks_of, sure_stands, certain_stands):
                self.assertEqual(call(house, goals), call(other, goals))

    def test_large_houses(self):
        for seed in range(10):
            house = draw_house(seed, 8, 4, 1)
            goals = (seed % 4, 4 + seed % 4)
            greatest, choice = greatest_coming(house, goals)
            self.assertEqual(coming(house, goals, choice), row(greatest))
            least, other = least_coming(house, goals)
            self.assertEqual(coming(house, goals, other), row(least))
            for at, stand in enumerate(house[2]):
                for chances, _ in stand:
                    if at not in goals:
                        means = [sum(number(chance) * number(u[to]) for to, chance in chances) for u in (greatest, least)]
                        self.assertGreaterEqual(number(greatest[at]), means[0])
                        self.assertLessEqual(number(least[at]), means[1])

    def test_what_goals_are(self):
        for right in ((0,), (1,), (2,), (0, 1), (0, 2), (0, 1, 2)):
            self.assertIs(is_goal_row(MAZE, right), True)
        for wrong in ((), (3,), (-1,), (0, 0), (1, 0), (0, 3), (True,), (0, True), [0], ("0",), (None,), (0, None), {0: 1},
                      (0, 1, 2, 3), ((0,),), (10 ** 390,), 0):
            self.assertIs(is_goal_row(MAZE, wrong), False, wrong)
        for value in strange_values():
            self.assertIs(is_goal_row(MAZE, value), value in ((1,),), value)
        for value in bent((0, 2)):
            right = type(value) is tuple and value != () and all(type(each) is int and each in (0, 1, 2) for each in value)
            self.assertIs(is_goal_row(MAZE, value), right and list(value) == sorted(set(value)), value)

    def test_numbers_of_some_hundred_figures(self):
        low, high = (1, 10 ** 390), (10 ** 390 - 1, 10 ** 390)
        house = (HALF, 1, (
            ((((0, high), (1, low)), (HUGE,)), (((0, low), (2, high)), (NIL,))), ((((1, ONE),), (NIL,)),), ((((2, ONE),), (NIL,)),),
        ))
        self.assertEqual(greatest_coming(house, (1,)), ((ONE, ONE, NIL), (0, 0, 0)))
        self.assertEqual(least_coming(house, (1,)), ((NIL, ONE, NIL), (1, 0, 0)))


if __name__ == "__main__":
    unittest.main()
