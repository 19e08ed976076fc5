"""Point [49] and desks.py."""

import random
import unittest

from deedhouses.bounds import does_keep, is_reason
from deedhouses.desks import Desk
from deedhouses.errors import (
    Broken, CannotKeep, HouseError, InvalidBounds, InvalidNamed, InvalidNumber, InvalidStart, InvalidStill, NothingToUndo,
)
from deedhouses.language import is_named, named_of
from deedhouses.plans import is_still
from deedhouses.worths import pays_of
from tests.helpers import (
    HALF, NIL, ONE, QUARTER, SHOP, THREE, TOSSED, TWO, draw_house, draw_row, draw_start, draw_still, number, pair, plain,
    strange_values,
)
from tests.test_texts import MARKET

WORK, REST = plain(SHOP, (0, 0)), plain(SHOP, (1, 0))


class Stop(Exception):
    """An error of the caller's own."""


def shown(desk):
    """All that a desk tells."""
    return desk.named, desk.start, desk.bounds, desk.still, desk.pays, len(desk)


class ChangeTest(unittest.TestCase):
    def same(self, desk, before):
        self.assertEqual(shown(desk), before)

    def refused(self, desk, kind, call, *arguments, **named):
        """The call raises just this error, and changes nothing."""
        before = shown(desk)
        with self.assertRaises(HouseError, msg=(arguments, named)) as caught:
            call(*arguments, **named)
        self.assertIs(type(caught.exception), kind, (arguments, named))
        self.same(desk, before)
        return caught.exception

    def test_example(self):
        kept = Desk(MARKET)
        self.assertIsNone(kept.settle((THREE, None)))
        self.assertEqual(kept.bounds, (THREE, None))
        self.assertIs(kept.pays[0][0] >= 3 * kept.pays[0][1], True)
        self.assertEqual(len(kept), 1)
        self.assertIsNone(kept.undo())
        self.assertEqual(len(kept), 0)

    def test_at_first(self):
        self.assertEqual(shown(Desk(MARKET)), (MARKET, (ONE, NIL), (None, None), WORK, ((16, 5), NIL), 0))
        for seed in range(10):
            named = named_of(draw_house(seed, 1 + seed % 5, 3, 1 + seed % 4))
            desk = Desk(named)
            house = named[0]
            stands = len(house[2])
            self.assertEqual(desk.named, named)
            self.assertEqual(desk.start, (ONE,) + (NIL,) * (stands - 1))
            self.assertEqual(desk.bounds, (None,) * house[1])
            self.assertEqual(desk.still, plain(house, (0,) * stands))
            self.assertEqual(desk.pays, pays_of(house, desk.start, desk.still))
        for wrong in [*strange_values(), SHOP, [*MARKET], (MARKET[0], MARKET[1][:2])]:
            with self.assertRaises(InvalidNamed) as caught:
                Desk(wrong)
            self.assertIs(caught.exception.given, wrong)
        self.assertEqual(len(Desk(named=MARKET)), 0)

    def test_each_change_and_its_undoing(self):
        desk = Desk(MARKET)
        told = [shown(desk)]
        for call, arguments, named, at, value in (
            (desk.follow, (TOSSED,), {}, 3, TOSSED), (desk.begin, ((HALF, HALF),), {}, 1, (HALF, HALF)),
            (desk.wish, ((None, QUARTER),), {}, 2, (None, QUARTER)), (desk.settle, ((ONE, None),), {}, 2, (ONE, None)),
            (desk.pay, (1, 0), {"pay": 0, "number": THREE}, 0, None), (desk.begin, (), {"start": (NIL, ONE)}, 1, (NIL, ONE)),
            (desk.wish, (), {"bounds": (ONE, None)}, 2, (ONE, None)), (desk.follow, (), {"still": WORK}, 3, WORK),
            (desk.settle, (), {"bounds": (None, None)}, 2, (None, None)),
        ):
            self.assertIsNone(call(*arguments, **named))
            if value is not None:
                self.assertEqual(shown(desk)[at], value)
            self.assertEqual(len(desk), len(told))
            self.assertEqual(desk.pays, pays_of(desk.named[0], desk.start, desk.still))
            self.assertIs(does_keep(desk.named[0], desk.start, desk.bounds, desk.still), True)
            told.append(shown(desk))
        self.assertEqual(desk.named[0][2][1][0], (((0, ONE),), (THREE, NIL)))
        while len(told) > 1:
            told.pop()
            self.assertIsNone(desk.undo())
            self.same(desk, told[-1])
        self.refused(desk, NothingToUndo, desk.undo)

    def test_a_change_to_what_is_there_already_is_one(self):
        desk = Desk(MARKET)
        before = shown(desk)[:5]
        desk.begin((ONE, NIL))
        desk.wish((None, None))
        desk.follow(WORK)
        desk.pay(0, 0, pay=0, number=TWO)
        self.assertEqual(shown(desk), (*before, 4))
        desk.settle((None, None))
        self.assertEqual(len(desk), 5)
        for many in (4, 3, 2, 1, 0):
            desk.undo()
            self.assertEqual(shown(desk), (*before, many))
        self.refused(desk, NothingToUndo, desk.undo)

    def test_gains(self):
        desk = Desk(MARKET)
        desk.pay(0, 1, pay=1, number=(-7, 3))
        self.assertEqual(desk.named, ((HALF, 2, (
            (SHOP[2][0][0], (((0, ONE),), (ONE, (-7, 3)))), SHOP[2][1],
        )), MARKET[1]))
        self.assertIs(is_named(desk.named), True)
        self.assertEqual(desk.pays, ((16, 5), NIL))
        desk.pay(stand=0, deed=0, number=NIL, pay=0)
        self.assertEqual(desk.pays, (NIL, NIL))
        self.assertEqual(MARKET[0], SHOP)
        self.refused(desk, InvalidNumber, desk.pay, 0, 0, pay=2, number=ONE)
        with self.assertRaises(TypeError):
            desk.pay(0, 0, 0, ONE)
        with self.assertRaises(TypeError):
            desk.pay(0, 0, 0, number=ONE)
        with self.assertRaises(TypeError):
            desk.pay(0, 0, pay=0)
        self.assertEqual(len(desk), 2)

    def test_bounds_that_would_not_be_kept(self):
        desk = Desk(MARKET)
        desk.wish(((16, 5), NIL))
        self.refused(desk, Broken, desk.wish, ((33, 10), None))
        self.refused(desk, Broken, desk.wish, (None, (1, 10 ** 9)))
        self.refused(desk, Broken, desk.begin, (NIL, ONE))
        self.refused(desk, Broken, desk.begin, (pair(1 - 1 / 2 ** 20), pair(1 / 2 ** 20)))
        self.refused(desk, Broken, desk.follow, REST)
        self.refused(desk, Broken, desk.pay, 0, 0, pay=0, number=(199, 100))
        self.refused(desk, Broken, desk.pay, 1, 0, pay=1, number=(-1, 100))
        # A gain of a deed that is not done, or one that becomes greater, keeps them.
        desk.pay(0, 1, pay=0, number=(-9, 1))
        desk.pay(0, 0, pay=0, number=(201, 100))
        self.assertEqual(len(desk), 3)
        # Each change is looked at as a whole: bounds and plan together.
        self.assertIsNone(desk.settle((None, ONE)))
        self.assertIs(does_keep(desk.named[0], desk.start, (None, ONE), desk.still), True)

    def test_settling(self):
        desk = Desk(MARKET)
        desk.follow(TOSSED)
        error = self.refused(desk, CannotKeep, desk.settle, (THREE, TWO))
        self.assertIs(is_reason(SHOP, desk.start, (THREE, TWO), (error.weights, error.worths)), True)
        for bounds in ((TWO, TWO), ((16, 5), NIL), (THREE, (1, 3)), (None, TWO), (None, None)):
            desk.settle(bounds)
            self.assertEqual(desk.bounds, bounds)
            self.assertIs(is_still(SHOP, desk.still), True)
            self.assertIs(does_keep(SHOP, desk.start, bounds, desk.still), True)
            self.assertEqual(desk.pays, pays_of(SHOP, desk.start, desk.still))
        desk.begin((NIL, ONE))
        self.assertIs(type(self.refused(desk, CannotKeep, desk.settle, (None, (3, 2)))), CannotKeep)
        desk.settle((None, ONE))

    def test_wrong_arguments_ahead_of_bounds(self):
        desk = Desk(MARKET)
        desk.wish((THREE, None))
        for value in strange_values():
            for call, kind in ((desk.begin, InvalidStart), (desk.wish, InvalidBounds), (desk.follow, InvalidStill), (desk.settle, InvalidBounds)):
                error = self.refused(desk, kind, call, value)
                self.assertNotIsInstance(error.index, bool)
        self.assertEqual(self.refused(desk, InvalidStart, desk.begin, (NIL, (1, 0))).index, 1)
        self.assertIsNone(self.refused(desk, InvalidStart, desk.begin, (HALF, NIL)).index)
        self.assertEqual(self.refused(desk, InvalidBounds, desk.wish, ((9, 1), 1)).index, 1)
        self.assertEqual(self.refused(desk, InvalidBounds, desk.settle, ((9, 1), 1)).index, 1)
        self.assertEqual(self.refused(desk, InvalidStill, desk.follow, ((NIL, ONE), (NIL,))).index, 1)
        right = (0, 0, 0, NIL)
        wrong = ((2, True, "0", -1, None), (2, True, "0", -1, None), (2, False, "0", -1, None), (0, (2, 4), None, "1", True))
        for lot in range(1, 16):
            for turn in range(5):
                asked = [wrong[at][turn] if lot >> at & 1 else right[at] for at in range(4)]
                first = next(at for at in range(4) if lot >> at & 1)
                error = self.refused(desk, InvalidNumber, desk.pay, *asked[:2], pay=asked[2], number=asked[3])
                self.assertIs(error.given, asked[first])
        # Deeds are those of the stand that is told.
        self.assertEqual(self.refused(desk, InvalidNumber, desk.pay, 1, 1, pay=0, number=NIL).given, 1)
        self.refused(desk, Broken, desk.pay, 0, 0, pay=0, number=NIL)

    def test_errors_change_nothing_and_leave_the_past(self):
        desk = Desk(MARKET)
        desk.wish((THREE, None))
        for _ in range(3):
            self.refused(desk, Broken, desk.follow, REST)
            self.refused(desk, CannotKeep, desk.settle, (THREE, THREE))
        desk.undo()
        self.assertEqual(len(desk), 0)
        desk.follow(REST)
        self.assertEqual(desk.pays, (TWO, TWO))

    def test_drawn_changes_beside_a_list_of_all(self):
        for seed in range(12):
            source = random.Random(seed)
            house = draw_house(seed, 3, 3, 2)
            desk = Desk(named_of(house))
            told = [shown(desk)[:5]]
            for turn in range(40):
                now = list(told[-1])
                kind = source.choice(("begin", "wish", "follow", "undo", "pay"))
                if kind == "undo":
                    if len(told) > 1:
                        told.pop()
                        desk.undo()
                    else:
                        self.refused(desk, NothingToUndo, desk.undo)
                    self.assertEqual(shown(desk), (*told[-1], len(told) - 1))
                    continue
                if kind == "begin":
                    now[1] = draw_start(seed * 99 + turn, house)
                    call = lambda: desk.begin(now[1])
                elif kind == "wish":
                    now[2] = tuple(source.choice((None, each)) for each in draw_row(source, 2))
                    call = lambda: desk.wish(now[2])
                elif kind == "follow":
                    now[3] = draw_still(seed * 99 + turn, house)
                    call = lambda: desk.follow(now[3])
                else:
                    at = source.randrange(3)
                    deed, pay, gain = source.randrange(len(house[2][at])), source.randrange(2), draw_row(source, 1)[0]
                    stands = [[[list(part) for part in each] for each in stand] for stand in now[0][0][2]]
                    stands[at][deed][1][pay] = gain
                    changed = tuple(tuple(tuple(tuple(part) for part in each) for each in stand) for stand in stands)
                    now[0] = (now[0][0][0], 2, changed), now[0][1]
                    call = lambda: desk.pay(at, deed, pay=pay, number=gain)
                pays = pays_of(now[0][0], now[1], now[3])
                if any(bound is not None and number(one) < number(bound) for one, bound in zip(pays, now[2])):
                    self.refused(desk, Broken, call)
                else:
                    call()
                    told.append((*now[:4], pays))
                self.assertEqual(shown(desk), (*told[-1], len(told) - 1))


class TrialTest(unittest.TestCase):
    def test_a_call_alone_changes_nothing(self):
        desk = Desk(MARKET)
        desk.follow(REST)
        before = shown(desk)
        trial = desk.trial()
        self.assertEqual(shown(desk), before)
        desk.wish((ONE, ONE))
        # As it was when the block began, not when the call was made.
        with self.assertRaises(Stop):
            with trial as held:
                self.assertIs(held, desk)
                desk.undo()
                desk.undo()
                raise Stop()
        self.assertEqual(shown(desk), (MARKET, (ONE, NIL), (ONE, ONE), REST, (TWO, TWO), 2))

    def test_ended_well(self):
        desk = Desk(MARKET)
        with desk.trial() as held:
            held.follow(REST)
            held.wish((ONE, ONE))
        self.assertEqual(shown(desk), (MARKET, (ONE, NIL), (ONE, ONE), REST, (TWO, TWO), 2))
        desk.undo()
        desk.undo()
        self.assertEqual(len(desk), 0)

    def test_ended_with_an_error_that_is_passed_on(self):
        desk = Desk(MARKET)
        desk.follow(REST)
        before = shown(desk)
        for error in (Stop("why"), ValueError("why"), KeyboardInterrupt(), NothingToUndo(), StopIteration()):
            with self.assertRaises(type(error)) as caught:
                with desk.trial():
                    desk.wish((TWO, None))
                    desk.pay(0, 0, pay=0, number=NIL)
                    raise error
            self.assertIs(caught.exception, error)
            self.assertEqual(shown(desk), before)
        with self.assertRaises(Broken):
            with desk.trial():
                desk.follow(WORK)
                desk.wish(((16, 5), None))
                desk.follow(REST)
        self.assertEqual(shown(desk), before)
        # An error that is caught within the block does not end it.
        with desk.trial():
            desk.follow(WORK)
            with self.assertRaises(Broken):
                desk.wish((None, ONE))
        self.assertEqual((desk.still, len(desk)), (WORK, 2))

    def test_trials_within_trials(self):
        desk = Desk(MARKET)
        with desk.trial():
            desk.follow(TOSSED)
            with self.assertRaises(Stop):
                with desk.trial():
                    desk.follow(REST)
                    with desk.trial():
                        desk.wish((TWO, TWO))
                    self.assertEqual(len(desk), 3)
                    raise Stop()
            self.assertEqual((desk.still, desk.bounds, len(desk)), (TOSSED, (None, None), 1))
        self.assertEqual(len(desk), 1)
        before = shown(desk)
        with self.assertRaises(Stop):
            with desk.trial():
                with desk.trial():
                    desk.follow(REST)
                    desk.undo()
                    desk.undo()
                    self.assertEqual(len(desk), 0)
                self.assertEqual(len(desk), 0)
                desk.begin((NIL, ONE))
                raise Stop()
        self.assertEqual(shown(desk), before)

    def test_undoing_changes_made_before(self):
        desk = Desk(MARKET)
        desk.follow(TOSSED)
        desk.follow(REST)
        with desk.trial():
            desk.undo()
            desk.undo()
            with self.assertRaises(NothingToUndo):
                desk.undo()
            desk.wish(((16, 5), None))
        self.assertEqual(shown(desk), (MARKET, (ONE, NIL), ((16, 5), None), WORK, ((16, 5), NIL), 1))
        desk.undo()
        self.assertEqual(len(desk), 0)

    def test_a_trial_that_is_used_again(self):
        desk = Desk(MARKET)
        trial = desk.trial()
        with trial:
            desk.follow(REST)
        with self.assertRaises(Stop):
            with trial:
                desk.follow(TOSSED)
                raise Stop()
        self.assertEqual((desk.still, len(desk)), (REST, 1))

    def test_tried(self):
        desk = Desk(MARKET)

        def rests(told):
            self.assertIs(told, desk)
            told.follow(REST)
            return "rested"

        def fails(told):
            told.follow(TOSSED)
            told.undo()
            told.undo()
            raise Stop("failed")

        self.assertEqual(desk.tried(rests), "rested")
        self.assertEqual((desk.still, len(desk)), (REST, 1))
        with self.assertRaises(Stop):
            desk.tried(fails)
        self.assertEqual((desk.still, len(desk)), (REST, 1))
        self.assertIsNone(desk.tried(action=lambda told: told.wish((TWO, None))))
        self.assertEqual(desk.tried(lambda told: told.tried(len)), 2)
        with self.assertRaises(CannotKeep):
            desk.tried(lambda told: (told.undo(), told.settle((THREE, THREE))))
        self.assertEqual((desk.bounds, len(desk)), ((TWO, None), 2))
        with self.assertRaises(TypeError):
            desk.tried(None)
        self.assertEqual(len(desk), 2)


class DeskTest(unittest.TestCase):
    def test_two_desks_beside_one_another(self):
        one, two = Desk(MARKET), Desk(MARKET)
        one.follow(REST)
        two.wish(((16, 5), None))
        self.assertEqual((one.still, one.bounds, len(one)), (REST, (None, None), 1))
        self.assertEqual((two.still, two.bounds, len(two)), (WORK, ((16, 5), None), 1))
        with one.trial():
            with self.assertRaises(Stop):
                with two.trial():
                    one.pay(0, 0, pay=0, number=NIL)
                    two.pay(0, 0, pay=0, number=THREE)
                    raise Stop()
        self.assertEqual(one.named[0][2][0][0][1], (NIL, NIL))
        self.assertEqual(two.named, MARKET)
        one.undo()
        self.assertEqual(two.named, one.named)

    def test_length_truth_and_equality(self):
        one, two = Desk(MARKET), Desk(MARKET)
        self.assertIs(bool(one), True)
        self.assertTrue(one == one)
        self.assertFalse(one == two)
        self.assertTrue(one != two)
        for other in (None, 0, MARKET, (), "desk"):
            self.assertFalse(one == other)
        one.follow(REST)
        self.assertEqual((len(one), len(two), bool(one)), (1, 0, True))
        self.assertEqual([one, two].index(two), 1)

    def test_properties_are_read_alone(self):
        desk = Desk(MARKET)
        for name in ("named", "start", "bounds", "still", "pays"):
            self.assertIsInstance(vars(Desk)[name], property)
            with self.assertRaises(AttributeError):
                setattr(desk, name, None)
        for name in ("begin", "wish", "follow", "settle", "pay", "undo", "trial", "tried"):
            self.assertIn(name, vars(Desk))


if __name__ == "__main__":
    unittest.main()
