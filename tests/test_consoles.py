"""The console: lines that are said to a desk, and what it answers."""

import random
import unittest

from deedhouses.bounds import most
from deedhouses.consoles import Console
from deedhouses.desks import Desk
from deedhouses.errors import (
    Broken, CannotKeep, HouseError, InvalidDice, InvalidNumber, InvalidText, NoSum, NotADesk, NothingToUndo, TwiceNamed,
    UnknownName,
)
from deedhouses.language import house_text, named_of, read_house
from deedhouses.runs import run
from deedhouses.wordings import bounds_text, plan_text, start_text
from tests.helpers import NIL, ONE, SHOP, THREE, TOSSED, draw_row, draw_start, draw_still, number, pair, strange_values
from tests.test_desks import shown
from tests.test_texts import MARKET, TOLD, draw_named
from tests.wordgrammar import SPOKEN, bounds_reading, plan_reading, spoilt, start_reading, wrong_place

LINES = (
    "plan shop: 1/2 rest, 1/2 work", "begin 1/2 home, 1/2 shop", "wish calm at least 1/3, money at least -3", "wish none",
    "settle calm at least 1", "undo", "show house", "show begin", "show wish", "show plan", "show pays", "best money", "best calm",
    "run 1/3", "run 0 1/4 3/4 1/2 0",
)


def told_of(call, *arguments):
    try:
        return call(*arguments)
    except HouseError as error:
        told = [getattr(error, each) for each in ("given", "index", "line", "place", "weights", "worths") if hasattr(error, each)]
        return (type(error).__name__, *told)


def said_too(desk, line):
    """What a console answers, by another reading of the line and by the desk's own methods."""
    wrong = wrong_place(SPOKEN, line)
    if wrong is not None:
        return "InvalidText", 0, wrong
    word, _, rest = line.partition(" ")
    named = desk.named
    if word in ("begin", "wish", "settle", "plan"):
        reading = {"begin": start_reading, "plan": plan_reading}.get(word, bounds_reading)
        value = reading(named, line, len(word) + 1)
        if isinstance(value[0], str):
            return value
        call = {"begin": desk.begin, "wish": desk.wish, "settle": desk.settle, "plan": desk.follow}[word]
        return told_of(call, value) or "done"
    if word == "undo":
        return told_of(desk.undo) or "done"
    if word == "best":
        if rest not in named[1][0]:
            return "UnknownName", 0, 5
        return str(number(most(named[0], desk.start, desk.bounds, named[1][0].index(rest))[1]))
    if word == "run":
        dice = tuple(pair(number_of(each)) for each in rest.split(" "))
        way = told_of(run, named[0], desk.start, ("still", desk.still), dice)
        if way and isinstance(way[0], str):
            return way
        _, stands, deeds = named[1]
        return ", ".join(f"{stands[at]} {deeds[at][deed]} {stands[to]}" for at, deed, to in way) or "none"
    pays = ", ".join(f"{name} {number(each)}" for name, each in zip(named[1][0], desk.pays))
    return {
        "house": house_text(named), "begin": start_text(named, desk.start), "wish": bounds_text(named, desk.bounds),
        "plan": plan_text(named, desk.still), "pays": pays,
    }[rest]


def number_of(text):
    top, _, bottom = text.partition("/")
    return number((int(top), int(bottom or 1)))


class SayTest(unittest.TestCase):
    def beside(self, one, two, line):
        """Both desks, the one through its console, tell and are the same."""
        before = shown(one)
        told = told_of(Console(one).say, line)
        self.assertEqual(told, said_too(two, line), line)
        self.assertEqual(shown(one), shown(two), line)
        if not isinstance(told, str):
            self.assertEqual(shown(one), before, line)
        return "answer" if isinstance(told, str) else told[0]

    def test_examples(self):
        desk = Desk(MARKET)
        table = Console(desk)
        said = [table.say(line) for line in ("show plan", "show pays", "plan shop: 1 rest", "wish calm at least 2", "show pays", "best money")]
        self.assertEqual(said, ["shop: 1 work; home: 1 sleep", "money 16/5, calm 0", "done", "done", "money 2, calm 2", "2"])
        other = Desk(MARKET)
        again = Console(other)
        self.assertEqual(again.say("plan shop: 1 rest"), "done")
        self.assertEqual(again.say("run 0 1/4 3/4 1/2 0"), "shop rest shop, shop rest shop")
        self.assertEqual(len(other), 1)
        self.assertEqual(again.say("undo"), "done")
        self.assertEqual(again.say("show wish"), "none")
        self.assertEqual(other.bounds, (None, None))
        self.assertEqual(again.say("run 1/2"), "none")

    def test_each_kind_of_line(self):
        one, two = Desk(MARKET), Desk(MARKET)
        for turn in range(3):
            for line in LINES:
                self.assertEqual(self.beside(one, two, line), "answer", line)
        self.assertEqual(Console(one).say("show house"), TOLD)

    def test_drawn_lines_one_behind_the_other(self):
        seen = {}
        for seed in range(12):
            source = random.Random(seed)
            named = draw_named(seed, 1 + seed % 4, 3, 1 + seed % 3)
            one, two = Desk(named), Desk(named)
            for turn in range(30):
                kind = source.choice(("begin", "wish", "settle", "plan", "undo", "show", "best", "run", "wish"))
                if kind == "begin":
                    line = "begin " + start_text(named, draw_start(seed * 50 + turn, named[0]))
                elif kind in ("wish", "settle"):
                    bounds = tuple(source.choice((None, None, each)) for each in draw_row(source, named[0][1]))
                    line = f"{kind} {bounds_text(named, bounds)}"
                elif kind == "plan":
                    line = "plan " + plan_text(named, draw_still(seed * 50 + turn, named[0]))
                elif kind == "show":
                    line = "show " + source.choice(("house", "begin", "wish", "plan", "pays"))
                elif kind == "best":
                    line = "best " + source.choice((*named[1][0], "zzz"))
                elif kind == "run":
                    line = "run " + " ".join(f"{source.randrange(9)}/9" for _ in range(1 + 2 * source.randrange(5)))
                else:
                    line = kind
                told = self.beside(one, two, line)
                seen[told] = seen.get(told, 0) + 1
        for kind in ("answer", "Broken", "CannotKeep", "NothingToUndo", "UnknownName"):
            self.assertGreater(seen.get(kind, 0), 0, seen)

    def test_spoilt_lines(self):
        seen = {}
        for at, line in enumerate(LINES):
            for each in spoilt(line, "a01n/-,:; \n" if len(line) > 12 else "abehnoprsw01/-,:; \n"):
                one, two = Desk(MARKET), Desk(MARKET)
                if at % 2 == 0:
                    one.follow(TOSSED)
                    two.follow(TOSSED)
                told = self.beside(one, two, each)
                seen[told] = seen.get(told, 0) + 1
        for kind in ("answer", "InvalidText", "UnknownName", "NoSum", "InvalidDice", "NothingToUndo"):
            self.assertGreater(seen.get(kind, 0), 2, seen)

    def test_places_by_hand(self):
        table = Console(Desk(MARKET))
        for line, place in (
            ("", 0), ("b", 1), ("be", 2), ("beg", 3), ("bes", 3), ("bek", 2), ("begin", 5), ("begin ", 6), ("begin 1", 7), ("Begin", 0),
            ("begin  1 shop", 6), ("begin 1 shop\n", 12), ("begin 1 shop ", 12), ("w", 1), ("wish", 4), ("wish non", 8), ("wish none ", 10),
            ("wish none,", 9), ("s", 1), ("se", 2), ("sh", 2), ("show", 4), ("show ", 5), ("show p", 6), ("show pl", 7), ("show pa", 7),
            ("show px", 6), ("show plan ", 9), ("show houses", 10), ("undo ", 4), ("und", 3), ("undo\n", 4), ("best", 4), ("best ", 5),
            ("best 1", 5), ("best money ", 10), ("best a, b", 6), ("run", 3), ("run ", 4), ("run none", 4), ("run 1/2 ", 8), ("run 1/2 0", 9),
            ("run 0 0 0 ", 10), ("run 0  0 0", 6), ("run 0, 0, 0", 5), ("run -1", 4), ("run 00", 5), ("run 1/0", 6), ("plan shop: 1 work;", 18),
            ("settle", 6), ("settle calm at least", 20), ("set", 3), ("undo undo", 4), (" undo", 0), ("quit", 0), ("show show", 5), ("rum", 2),
        ):
            with self.assertRaises(InvalidText, msg=line) as caught:
                table.say(line)
            self.assertEqual((caught.exception.line, caught.exception.place), (0, place), line)

    def test_places_of_what_is_read_are_those_of_the_whole_line(self):
        table = Console(Desk(MARKET))
        for line, kind, place in (
            ("begin 1/2 shop, 1/2 hom", UnknownName, 20), ("begin 1/2 shop, 1/3 home", NoSum, 6), ("wish mone at least 1", UnknownName, 5),
            ("wish calm at least 1, calm at least 1", TwiceNamed, 22), ("settle mone at least 1", UnknownName, 7),
            ("plan shop: 1 sleep", UnknownName, 13), ("plan home: 1 sleep; home: 1 sleep", TwiceNamed, 20), ("plan shop: 1/2 work", NoSum, 11),
            ("best shop", UnknownName, 5), ("best none", UnknownName, 5),
        ):
            with self.assertRaises(kind, msg=line) as caught:
                table.say(line)
            self.assertEqual((caught.exception.line, caught.exception.place), (0, place), line)

    def test_how_many_dice(self):
        desk = Desk(MARKET)
        table = Console(desk)
        self.assertEqual(table.say("run 0"), "none")
        full = "run " + " ".join(["0"] * 121)
        self.assertEqual(table.say(full), ", ".join(["shop work shop"] * 60))
        for line, place in ((full + " 0", len(full)), (full + " 0 0", len(full)), (full[:-2], len(full) - 2), (full[:-1], len(full) - 1)):
            with self.assertRaises(InvalidText) as caught:
                table.say(line)
            self.assertEqual((caught.exception.line, caught.exception.place), (0, place))
        for line, index in (("run 1", 0), ("run 0 0 1", 2), ("run 0 3/2 1", 1), ("run 0 4/4 0", 1), ("run 7/3 0 0", 0)):
            with self.assertRaises(InvalidDice, msg=line) as caught:
                table.say(line)
            self.assertEqual(caught.exception.index, index)
        self.assertEqual(table.say("run 2/4 2/4 6/8"), "shop work home")

    def test_a_pay_named_none_and_stands_named_as_words(self):
        named = read_house("share 0\npays none, best\nstand show\ndeed undo: 1 run gets 1, 2\nstand run\ndeed plan: 1 show gets 0, 0")
        table = Console(Desk(named))
        for line, told in (
            ("wish none at least 1", "done"), ("show wish", "none at least 1"), ("wish none", "done"), ("show wish", "none"),
            ("best none", "1"), ("best best", "2"), ("run 0 0 0 0 0", "show undo run, run plan show"), ("show pays", "none 1, best 2"),
            ("plan run: 1 plan; show: 1 undo", "done"), ("show plan", "show: 1 undo; run: 1 plan"), ("begin 1 run", "done"),
            ("show begin", "1 run"), ("settle none", "done"),
        ):
            self.assertEqual(table.say(line), told)

    def test_best_is_under_the_desks_bounds_from_its_start(self):
        desk = Desk(MARKET)
        table = Console(desk)
        self.assertEqual((table.say("best money"), table.say("best calm")), ("16/5", "2"))
        self.assertEqual(table.say("settle calm at least 1"), "done")
        self.assertEqual(table.say("best money"), str(number(most(SHOP, (ONE, NIL), (None, ONE), 0)[1])))
        self.assertEqual(table.say("begin 1 shop"), "done")
        self.assertEqual(table.say("wish none"), "done")
        self.assertEqual(table.say("begin 1 home"), "done")
        self.assertEqual((table.say("best money"), table.say("best calm")), ("8/5", "1"))
        self.assertEqual(len(desk), 4)

    def test_errors_of_what_is_called_change_nothing(self):
        desk = Desk(MARKET)
        table = Console(desk)
        table.say("wish money at least 3")
        before = shown(desk)
        for line, kind in (
            ("plan shop: 1 rest", Broken), ("begin 1 home", Broken), ("wish calm at least 1", Broken),
            ("settle calm at least 1, money at least 3", CannotKeep), ("best a", UnknownName), ("run 1", InvalidDice), ("undo now", InvalidText),
        ):
            with self.assertRaises(kind, msg=line):
                table.say(line)
            self.assertEqual(shown(desk), before)
        table.say("undo")
        with self.assertRaises(NothingToUndo):
            table.say("undo")

    def test_numbers_of_more_than_sixty_digits(self):
        long = 10 ** 60
        desk = Desk(MARKET)
        table = Console(desk)
        low, high = (1, long), (long - 1, long)
        desk.begin((low, high))
        desk.follow(((high, low), (ONE,)))
        desk.wish((None, (-long, 1)))
        desk.pay(0, 1, pay=1, number=(long, 7))
        for line, found in (("show begin", low), ("show plan", high), ("show wish", (-long, 1)), ("show house", (long, 7))):
            with self.assertRaises(InvalidNumber, msg=line) as caught:
                table.say(line)
            self.assertEqual(caught.exception.given, found)
        with self.assertRaises(InvalidNumber) as caught:
            table.say("show pays")
        self.assertEqual(caught.exception.given, desk.pays[0])
        with self.assertRaises(InvalidNumber) as caught:
            table.say("best calm")
        self.assertEqual(caught.exception.given, most(desk.named[0], desk.start, desk.bounds, 1)[1])
        desk.undo()
        desk.pay(0, 1, pay=1, number=(long - 1, 1))
        self.assertIn(f"gets 1, {long - 1}\n", table.say("show house"))

    def test_what_is_no_text(self):
        table = Console(Desk(MARKET))
        for wrong in [*[each for each in strange_values() if not isinstance(each, str)], 5, b"undo", ("undo",), ["undo"], Desk(MARKET)]:
            with self.assertRaises(InvalidText) as caught:
                table.say(wrong)
            self.assertEqual((caught.exception.line, caught.exception.place), (None, None))
        self.assertEqual(table.say(line="show wish"), "none")

    def test_what_is_no_desk(self):
        for wrong in [*strange_values(), MARKET, Desk, Console(Desk(MARKET)), Console]:
            with self.assertRaises(NotADesk) as caught:
                Console(wrong)
            self.assertIs(caught.exception.given, wrong)
        self.assertEqual(Console(desk=Desk(MARKET)).say("best calm"), "2")

    def test_one_desk_with_two_consoles(self):
        desk = Desk(named_of(SHOP))
        one, two = Console(desk), Console(desk)
        one.say("plan s0: 1 d1")
        desk.wish((None, ONE))
        self.assertEqual(two.say("show wish"), "p1 at least 1")
        self.assertEqual(two.say("show pays"), "p0 2, p1 2")
        with desk.trial():
            two.say("undo")
        self.assertEqual(one.say("show wish"), "none")
        self.assertEqual((desk.still, len(desk)), (((NIL, ONE), (ONE,)), 1))
        with self.assertRaises(Broken):
            desk.tried(lambda told: (Console(told).say("undo"), told.wish((THREE, THREE))))
        self.assertEqual(len(desk), 1)


if __name__ == "__main__":
    unittest.main()
