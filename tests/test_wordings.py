"""Point [42] and wordings.py."""

import random
import unittest
from fractions import Fraction

from deedhouses.errors import (
    HouseError, InvalidBounds, InvalidNamed, InvalidNumber, InvalidStart, InvalidStill, InvalidText, NoSum, TwiceNamed,
    UnknownName,
)
from deedhouses.houses import is_start
from deedhouses.language import named_of, read_house
from deedhouses.plans import is_still
from deedhouses.wordings import bounds_text, plan_text, read_bounds, read_plan, read_start, start_text
from tests.helpers import COIN, HALF, NIL, ONE, QUARTER, SHOP, TOSSED, TWO, draw_odds, draw_row, draw_start, draw_still, number, pair
from tests.test_texts import MARKET, draw_named, error_told
from tests.wordgrammar import bounds_reading, plan_reading, spoilt, start_reading

# Names that begin like others, a pay named none, deeds of two stands with like names.
LIKE = (
    (HALF, 3, (
        ((((0, ONE),), (ONE, NIL, NIL)), (((1, ONE),), (NIL, ONE, NIL)), (((2, ONE),), (NIL, NIL, ONE))),
        ((((0, ONE),), (ONE, NIL, NIL)), (((1, ONE),), (NIL, ONE, NIL))),
        ((((2, ONE),), (ONE, ONE, ONE)),),
    )),
    (("none", "a", "no"), ("a", "ab", "none"), (("a", "ab", "b"), ("b", "a"), ("none",))),
)


def told_by(call, *arguments):
    try:
        return call(*arguments)
    except HouseError as error:
        return error_told(error)


class ReadingTest(unittest.TestCase):
    def test_examples(self):
        self.assertEqual(read_start(MARKET, "1/3 home, 2/3 shop"), ((2, 3), (1, 3)))
        self.assertEqual(start_text(MARKET, (ONE, NIL)), "1 shop")
        self.assertEqual(read_bounds(MARKET, "calm at least -1/2"), (None, (-1, 2)))
        self.assertEqual(bounds_text(MARKET, (TWO, None)), "money at least 2")
        self.assertEqual(read_bounds(MARKET, "none"), (None, None))
        self.assertEqual(read_plan(MARKET, "shop: 1/4 rest, 3/4 work"), (((3, 4), (1, 4)), ((1, 1),)))
        self.assertEqual(plan_text(MARKET, TOSSED), "shop: 1/2 work, 1/2 rest; home: 1 sleep")

    def test_told_several_times_in_parts_and_not_in_lowest_terms(self):
        self.assertEqual(read_start(MARKET, "1/4 home, 0 shop, 2/8 home, 3/6 shop, 0/9 home"), (HALF, HALF))
        self.assertEqual(read_start(MARKET, ", ".join(["1/8 shop"] * 8)), (ONE, NIL))
        self.assertEqual(read_plan(MARKET, "shop: 1/4 rest, 1/4 work, 2/4 rest, 0 work"), ((QUARTER, (3, 4)), (ONE,)))
        self.assertEqual(read_bounds(MARKET, "calm at least -2/4, money at least 6/3"), (TWO, (-1, 2)))
        self.assertEqual(read_bounds(MARKET, "calm at least -0, money at least 0/7"), (NIL, NIL))
        self.assertEqual(read_bounds(MARKET, "calm at least " + "9" * 60), (None, (10 ** 60 - 1, 1)))

    def test_stands_that_are_left_out(self):
        self.assertEqual(read_plan(LIKE, "ab: 1 a"), ((ONE, NIL, NIL), (NIL, ONE), (ONE,)))
        self.assertEqual(read_plan(LIKE, "none: 1 none; a: 1/2 b, 1/2 ab"), ((NIL, HALF, HALF), (ONE, NIL), (ONE,)))

    def test_none_and_a_pay_named_none(self):
        self.assertEqual(read_bounds(LIKE, "none"), (None, None, None))
        self.assertEqual(read_bounds(LIKE, "none at least 2"), (TWO, None, None))
        self.assertEqual(read_bounds(LIKE, "no at least 1, none at least -2"), ((-2, 1), None, ONE))
        self.assertEqual(bounds_text(LIKE, (NIL, None, None)), "none at least 0")
        self.assertEqual(bounds_text(LIKE, (None, None, None)), "none")
        for text in ("none at least 2", "no at least 1, a at least 0, none at least 3"):
            self.assertEqual(bounds_text(LIKE, read_bounds(LIKE, text)), ", ".join(sorted(
                text.split(", "), key=lambda part: LIKE[1][0].index(part.split(" ")[0])
            )))

    def test_there_and_back(self):
        source = random.Random(5)
        for seed in range(60):
            named = draw_named(seed, 1 + seed % 5, 4, 1 + seed % 4)
            house = named[0]
            start, still = draw_start(seed, house), draw_still(seed, house)
            bounds = tuple(source.choice((None, each)) for each in draw_row(source, house[1]))
            text = start_text(named, start)
            self.assertEqual(text, ", ".join(f"{number(each)} {own}" for each, own in zip(start, named[1][1]) if each[0]))
            self.assertEqual(read_start(named, text), start)
            text = bounds_text(named, bounds)
            told = [f"{own} at least {number(each)}" for own, each in zip(named[1][0], bounds) if each is not None]
            self.assertEqual(text, ", ".join(told) or "none")
            self.assertEqual(read_bounds(named, text), bounds)
            text = plan_text(named, still)
            parts = []
            for own, odds, deeds in zip(named[1][1], still, named[1][2]):
                parts.append(own + ": " + ", ".join(f"{number(odd)} {deed}" for odd, deed in zip(odds, deeds) if odd[0]))
            self.assertEqual(text, "; ".join(parts))
            self.assertEqual(read_plan(named, text), still)

    def test_what_is_read_is_right(self):
        self.assertIs(is_start(SHOP, read_start(MARKET, "2/6 home, 4/6 shop")), True)
        self.assertIs(is_still(SHOP, read_plan(MARKET, "home: 3/3 sleep")), True)

    def test_most_parts(self):
        eight = named_of((HALF, 4, tuple(((((at, ONE),), (NIL,) * 4),) * 4 for at in range(8))))
        full = "; ".join(f"s{at}: 1/4 d0, 1/4 d1, 1/4 d2, 1/4 d3" for at in range(8))
        self.assertEqual(read_plan(eight, full), ((QUARTER,) * 4,) * 8)
        self.assertEqual(told_by(read_plan, eight, full + "; s0: 1 d0"), ("InvalidText", 0, len(full)))
        self.assertEqual(told_by(read_plan, eight, full + ", 1/4 d1"), ("InvalidText", 0, len(full)))
        full = ", ".join(f"1/8 s{at}" for at in range(8))
        self.assertEqual(read_start(eight, full), ((1, 8),) * 8)
        self.assertEqual(told_by(read_start, eight, full + ", 0 s1"), ("InvalidText", 0, len(full)))
        full = ", ".join(f"p{at} at least {at}" for at in range(4))
        self.assertEqual(read_bounds(eight, full), (NIL, ONE, TWO, (3, 1)))
        self.assertEqual(told_by(read_bounds, eight, full + ", p0 at least 1"), ("InvalidText", 0, len(full)))


class ErrorTest(unittest.TestCase):
    def place(self, call, text, kind, place, named=MARKET):
        with self.assertRaises(kind, msg=text) as caught:
            call(named, text)
        self.assertEqual((caught.exception.line, caught.exception.place), (0, place), text)

    def test_form_by_hand(self):
        for text, place in (
            ("", 0), ("1", 1), ("1 ", 2), ("1 shop,", 7), ("1 shop, ", 8), ("1 shop ", 6), ("1 shop\n", 6), ("01 shop", 1),
            ("-1 shop", 0), ("1  shop", 2), ("1/0 shop", 2), ("1 shop#", 6), ("1 shop1", None), ("1 Shop", 2), ("1 1shop", 2),
            ("1 abcdefghijklm", 14), ("1" * 61 + " shop", 60), ("1 shop; 1 home", 6), (" 1 shop", 0), ("1\tshop", 1),
        ):
            self.place(read_start, text, UnknownName if place is None else InvalidText, 2 if place is None else place)
        for text, place in (
            ("", 0), ("n", 1), ("non", 3), ("none ", 5), ("none,", 4), ("none, calm at least 1", 4), ("none\n", 4),
            ("calm at least", 13), ("calm at least ", 14), ("calm at least -", 15), ("calm at least --1", 15),
            ("calm at least 1,", 16), ("calm at least 1, ", 17), ("calm at least 1, none", 21), ("calm atleast 1", 7),
            ("calm at least 1/", 16), ("calm at least 1\n", 15), ("calm", 4), ("calm at most 1", 8), ("calm at least 00", 15),
        ):
            self.place(read_bounds, text, InvalidText, place)
        for text, place in (
            ("", 0), ("shop", 4), ("shop:", 5), ("shop: ", 6), ("shop: 1", 7), ("shop: 1 work;", 13), ("shop: 1 work; ", 14),
            ("shop: 1 work;home: 1 sleep", 13), ("shop: 1 work,", 13), ("shop: 1 work, home: 1 sleep", 14), ("shop : 1 work", 4),
            ("shop: -1 work", 6), ("shop: 1 work\n", 12), ("none", 4), ("shop: 1/4 a, 1/4 a, 1/4 a, 1/4 a, 0 a", 32),
        ):
            self.place(read_plan, text, InvalidText, place)

    def test_names_and_sums_by_hand(self):
        self.place(read_start, "1/2 shop, 1/3 hom, 2 x", UnknownName, 14)
        self.place(read_start, "1/2 shop, 1/3 home", NoSum, 0)
        self.place(read_start, "0 shop", NoSum, 0)
        self.place(read_bounds, "calm at least 1, mone at least 1", UnknownName, 17)
        self.place(read_bounds, "calm at least 1, calm at least 1, x at least 1", TwiceNamed, 17)
        self.place(read_bounds, "calm at least 1, x at least 1, calm at least 1", UnknownName, 17)
        self.place(read_plan, "home: 1 sleep; hom: 1 work", UnknownName, 15)
        self.place(read_plan, "home: 1 sleep; home: 1 work", TwiceNamed, 15)
        self.place(read_plan, "home: 1 work; x: 1 work", UnknownName, 8)
        self.place(read_plan, "home: 1/2 sleep; x: 1 work", NoSum, 6)
        self.place(read_plan, "home: 1/2 sleep, 1/2 slee; x: 1 work", UnknownName, 21)
        self.place(read_plan, "home: 1/2 sleep, 1/3 sleep; x: 1 work", NoSum, 6)
        self.place(read_plan, "home: 1 sleep; shop: 1/2 rest, 1 work, 1 sleep", UnknownName, 41)
        # Deeds of two stands have like names; a name of another stand's deed is none.
        self.place(read_plan, "ab: 1 ab", UnknownName, 6, LIKE)
        self.place(read_plan, "a: 1 a; ab: 1/2 b, 1/2 a; a: 1 a", TwiceNamed, 26, LIKE)
        self.place(read_bounds, "none at least 1, none at least 1", TwiceNamed, 17, LIKE)
        self.place(read_bounds, "none at least 1", UnknownName, 0)

    def test_beside_another_reading(self):
        seen = {}
        cases = (
            (read_start, start_reading, ("1/3 home, 2/3 shop", "0 shop, 1/2 home, 2/4 shop")),
            (read_bounds, bounds_reading, ("none", "calm at least -1/2", "money at least 12, calm at least 0")),
            (read_plan, plan_reading, ("shop: 1/4 rest, 3/4 work", "home: 1 sleep; shop: 1/2 work, 1/2 rest")),
        )
        for call, other, texts in cases:
            for text in texts:
                for each in spoilt(text, "a0129z-/#+,:; \ncmhe"):
                    told = told_by(call, MARKET, each)
                    self.assertEqual(told, other(MARKET, each), each)
                    kind = told[0] if isinstance(told[0], str) else "read"
                    seen[call.__name__, kind] = seen.get((call.__name__, kind), 0) + 1
        for call in ("read_start", "read_bounds", "read_plan"):
            for kind in ("read", "InvalidText", "UnknownName"):
                self.assertGreater(seen.get((call, kind), 0), 3, seen)
        self.assertGreater(seen["read_start", "NoSum"], 3)
        self.assertGreater(seen["read_plan", "NoSum"], 3)

    def test_like_names_beside_another_reading(self):
        for call, other, text in (
            (read_start, start_reading, "1/2 a, 1/4 ab, 1/4 none"),
            (read_bounds, bounds_reading, "no at least 1, none at least 2, a at least 3"),
            (read_plan, plan_reading, "ab: 1/2 a, 1/2 b; a: 1/3 ab, 1/3 a, 1/3 b"),
        ):
            for each in spoilt(text, "abno1 ,;"):
                self.assertEqual(told_by(call, LIKE, each), other(LIKE, each), each)

    def test_no_text_and_no_named_house(self):
        for call in (read_start, read_bounds, read_plan):
            for wrong in (None, 5, True, b"none", ("none",), ["none"], {}, ()):
                with self.assertRaises(InvalidText) as caught:
                    call(MARKET, wrong)
                self.assertEqual((caught.exception.line, caught.exception.place), (None, None))
            with self.assertRaises(InvalidNamed) as caught:
                call(SHOP, 5)
            self.assertIs(caught.exception.given, SHOP)


class PrintTest(unittest.TestCase):
    def test_wrong_arguments_in_order(self):
        for call, wrong, kind, index in (
            (start_text, (ONE, None), InvalidStart, 1), (start_text, (ONE, ONE), InvalidStart, None),
            (bounds_text, (None, 2), InvalidBounds, 1), (bounds_text, (None,), InvalidBounds, None),
            (plan_text, ((ONE, NIL), (NIL,)), InvalidStill, 1), (plan_text, [], InvalidStill, None),
        ):
            with self.assertRaises(kind) as caught:
                call(MARKET, wrong)
            self.assertEqual(caught.exception.index, index)
            with self.assertRaises(InvalidNamed):
                call((MARKET[0],), wrong)

    def test_numbers_of_more_than_sixty_digits(self):
        long, least = 10 ** 60, 10 ** 60 - 1
        low, high = (1, long), (long - 1, long)
        for call, value, found in (
            (start_text, (low, high), low), (start_text, (high, low), high),
            (bounds_text, ((least, 1), (-long, 1)), (-long, 1)), (bounds_text, ((long, 7), (1, long)), (long, 7)),
            (plan_text, ((high, low), (ONE,)), high), (bounds_text, (None, (1, long)), (1, long)),
        ):
            with self.assertRaises(InvalidNumber) as caught:
                call(MARKET, value)
            self.assertEqual(caught.exception.given, found)
        near = (pair(Fraction(1, least)), pair(Fraction(least - 1, least)))
        self.assertEqual(read_start(MARKET, start_text(MARKET, near)), near)
        self.assertEqual(read_bounds(MARKET, bounds_text(MARKET, ((-least, 1), (1, least)))), ((-least, 1), (1, least)))
        self.assertEqual(read_plan(MARKET, plan_text(MARKET, (near, (ONE,)))), (near, (ONE,)))

    def test_other_houses(self):
        coin = named_of(COIN)
        self.assertEqual(plan_text(coin, ((QUARTER, (3, 4)),)), "s0: 1/4 d0, 3/4 d1")
        named = read_house("share 0\npays a\nstand x# to 3\ndeed d: 1 x#+1 gets 1#")
        source = random.Random(1)
        start = draw_odds(source, 3)
        self.assertEqual(read_start(named, start_text(named, start)), start)


if __name__ == "__main__":
    unittest.main()
