"""Points [37] to [41] and language.py."""

import random
import unittest
from fractions import Fraction
from itertools import permutations, product

from deedhouses.best import best
from deedhouses.bounds import keep
from deedhouses.errors import (
    HouseError, InvalidHouse, InvalidNamed, InvalidNumber, InvalidOrder, InvalidText, NoSum, TwiceNamed, UnknownName,
)
from deedhouses.goals import greatest_coming, least_coming
from deedhouses.houses import is_house
from deedhouses.language import house_text, is_named, named_of, read_house, reordered
from deedhouses.worths import pays_of, worths_of
from tests.grammar import form_error, reading, written_out
from tests.helpers import (
    COIN, HALF, HUGE, NIL, ONE, SHOP, bent, draw_house, draw_row, draw_start, draw_still, number, pair, strange_values,
)

TOLD = (
    "share 1/2\npays money, calm\nstand shop\ndeed work: 1/2 shop, 1/2 home gets 2, 0\ndeed rest: 1 shop gets 1, 1\n"
    "stand home\ndeed sleep: 1 shop gets 0, 0"
)
LADDER = (
    "share 2/4\npays gold\nstand step# to 3\ndeed up: 1/2 step#+1, 1/2 step# gets 1#\ndeed down: 1 step#-1 gets -1/2"
)
BOTH = (
    "share 0\npays a, b\nstand top\ndeed go: 1/3 low2, 2/3 top gets -1, 0\nstand low# to 2\n"
    "deed go: 1/4 low#-1, 1/4 up#+2, 1/2 top gets 2/6#, -0#\nstand up# to 3\ndeed stay: 1 up# gets 1, -2#"
)
NEAR = (
    "share 1/9\npays a, ab, b\nstand s# to 2\ndeed a: 1 s#-1 gets 1, 2, 3\ndeed a1: 1/2 s1, 1/2 s2 gets 1#, 2, 0\n"
    "stand s\ndeed a: 1 s15 gets 0, 0, 0\nstand s15\ndeed t: 1 s gets 0, 0, 0"
)
MARKET = read_house(TOLD)


def error_told(error):
    """What an error tells, as the tests' own reading does."""
    attributes = ("given",) if hasattr(error, "given") else ("line", "place")
    return (type(error).__name__, *[getattr(error, each) for each in attributes])


def read_told(text):
    try:
        return read_house(text)
    except HouseError as error:
        return error_told(error)


def is_name_too(value):
    if type(value) is not str or not 1 <= len(value) <= 12 or not "a" <= value[0] <= "z":
        return False
    return all("a" <= sign <= "z" or "0" <= sign <= "9" for sign in value)


def is_named_too(value):
    if type(value) is not tuple or len(value) != 2 or not is_house(value[0]):
        return False
    names = value[1]
    if type(names) is not tuple or len(names) != 3 or type(names[2]) is not tuple or len(names[2]) != len(value[0][2]):
        return False
    rows = [(names[0], value[0][1]), (names[1], len(value[0][2])), *[(own, len(stand)) for own, stand in zip(names[2], value[0][2])]]
    for own, many in rows:
        if type(own) is not tuple or len(own) != many or not all(is_name_too(each) for each in own) or len(set(own)) != many:
            return False
    return True


def draw_name(source):
    most = source.choice((1, 2, 5, 12))
    return source.choice("abgsxz") + "".join(source.choice("abcgets019") for _ in range(source.randint(0, most - 1)))


def draw_names(source, many):
    names = []
    while len(names) < many:
        own = draw_name(source)
        if own not in names:
            names.append(own)
    return tuple(names)


def draw_named(seed, stands=4, deeds=4, pays=2):
    source = random.Random(seed)
    house = draw_house(seed, stands, deeds, pays)
    deed_names = tuple(draw_names(source, len(stand)) for stand in house[2])
    return house, (draw_names(source, pays), draw_names(source, stands), deed_names)


def plain_text(named):
    """The text of a named house, written in another way than the package does."""
    (share, _, stands), (pays, names, deeds) = named
    made = [f"share {number(share)}", f"pays {', '.join(pays)}"]
    for stand, name, own in zip(stands, names, deeds):
        made.append(f"stand {name}")
        for (chances, gains), deed in zip(stand, own):
            parts = ", ".join(f"{number(chance)} {names[at]}" for at, chance in chances)
            made.append(f"deed {deed}: {parts} gets {', '.join(str(number(each)) for each in gains)}")
    return "\n".join(made)


def draw_text(seed):
    """A drawn text that can be read, with rows of stands, chances told in parts and numbers not in lowest terms."""
    source = random.Random(seed)
    pays = source.randint(1, 4)
    lots, left = [], 8
    while left > 0 and (not lots or source.random() < 0.6):
        many = source.choice((None, None, 1, 2, 3, 8))
        if (many or 1) <= left:
            lots.append(many)
            left -= many or 1
    bases = draw_names(source, len(lots))
    bases = [f"{chr(97 + at)}{own[:9]}x" for at, own in enumerate(bases)]
    every = [name for own, many in zip(bases, lots) for name in ([own] if many is None else [f"{own}{at}" for at in range(1, many + 1)])]
    rows = [own for own, many in zip(bases, lots) if many is not None]
    lines = [f"share {source.choice(('0', '1/2', '2/4', '0/7', '59/60'))}", "pays " + ", ".join(draw_names(source, pays))]
    for own, many in zip(bases, lots):
        lines.append(f"stand {own}" if many is None else f"stand {own}# to {many}")
        for deed in draw_names(source, source.randint(1, 4)):
            parts = [source.choice((0, 1, 1, 2, 3)) for _ in range(source.randint(1, 8))]
            parts[0] += sum(parts) == 0
            told = []
            for part in parts:
                factor = source.choice((1, 2))
                name = source.choice(every)
                if many is not None and source.random() < 0.5:
                    name = source.choice(rows) + "#" + source.choice(("", "+1", "-1", "+7", "-2"))
                told.append((f"{part * factor}/{sum(parts) * factor}" if sum(parts) > 1 else str(part)) + f" {name}")
            gains = [source.choice(("0", "-0", "3", "-2", "4/6", "-1/9")) + source.choice(("", "#") if many is not None else ("",))
                     for _ in range(pays)]
            lines.append(f"deed {deed}: {', '.join(told)} gets {', '.join(gains)}")
    return "\n".join(lines)


class ReadTest(unittest.TestCase):
    def test_examples(self):
        self.assertEqual(MARKET[0], SHOP)
        self.assertEqual(MARKET[1], (("money", "calm"), ("shop", "home"), (("work", "rest"), ("sleep",))))
        self.assertEqual(house_text(MARKET), TOLD)
        ladder = read_house(LADDER)
        self.assertEqual(ladder[0][0], HALF)
        self.assertEqual(ladder[1][1], ("step1", "step2", "step3"))
        self.assertEqual(ladder[0][2][0], ((((0, (1, 2)), (1, (1, 2))), ((1, 1),)), (((0, (1, 1)),), ((-1, 2),))))
        self.assertEqual(ladder[0][2][2], ((((2, (1, 1)),), ((3, 1),)), (((1, (1, 1)),), ((-1, 2),))))

    def test_drawn_texts_beside_another_reading(self):
        for seed in range(150):
            text = draw_text(seed)
            told = read_house(text)
            self.assertEqual(told, reading(text), text)
            self.assertIs(is_named(told), True)

    def test_rows_written_out(self):
        for text in (LADDER, BOTH, *[draw_text(seed) for seed in range(100)]):
            plain = written_out(text)
            self.assertEqual(plain.count("#"), 0)
            self.assertEqual(read_house(plain), read_house(text), text)

    def test_rows_of_stands(self):
        told = read_house(BOTH)
        self.assertEqual(told[1][1], ("top", "low1", "low2", "up1", "up2", "up3"))
        # low1: one less is low1 itself, two more than 1 in the row of up is up3; low2: up4 is up3.
        self.assertEqual(told[0][2][1][0], (((0, HALF), (1, (1, 4)), (5, (1, 4))), ((1, 3), NIL)))
        self.assertEqual(told[0][2][2][0], (((0, HALF), (1, (1, 4)), (5, (1, 4))), ((2, 3), NIL)))
        self.assertEqual([stand[0][1] for stand in told[0][2][3:]], [(ONE, (-2, 1)), (ONE, (-4, 1)), (ONE, (-6, 1))])

    def test_beyond_both_ends(self):
        for many in range(1, 9):
            for steps in ("", *[sign + str(far) for sign in "+-" for far in range(1, 8)]):
                text = f"share 0\npays a\nstand s# to {many}\ndeed d: 1 s#{steps} gets 0"
                stands = read_house(text)[0][2]
                for at in range(many):
                    self.assertEqual(stands[at][0][0], ((min(max(at + int(steps or 0), 0), many - 1), ONE),))

    def test_rows_of_unlike_lengths(self):
        text = "share 0\npays a\nstand s# to 5\ndeed d: 1 t#{} gets 0\nstand t# to 2\ndeed d: 1 s#{} gets 1#"
        for one, two in product(("", "+1", "-3", "+7"), repeat=2):
            stands = read_house(text.format(one, two))[0][2]
            self.assertEqual([stand[0][0][0][0] for stand in stands[:5]], [5 + min(max(at + int(one or 0), 1), 2) - 1 for at in range(1, 6)])
            self.assertEqual([stand[0][0][0][0] for stand in stands[5:]], [min(max(at + int(two or 0), 1), 5) - 1 for at in (1, 2)])

    def test_chances_added_up_and_left_out(self):
        text = "share 1/3\npays a\nstand x\ndeed d: 1/4 y, 0 x, 1/4 y, 0/9 x, 2/4 y gets 0\nstand y\ndeed d: 1/2 y, 1/2 x gets 0"
        self.assertEqual(read_house(text)[0][2], (((((1, ONE),), (NIL,)),), ((((0, HALF), (1, HALF)), (NIL,)),)))
        text = "share 1/3\npays a\nstand x\ndeed d: " + ", ".join(["1/8 x"] * 8) + " gets 0"
        self.assertEqual(read_house(text)[0][2][0][0][0], ((0, ONE),))
        # A row's own name may be that of another of its stands.
        text = "share 0\npays a\nstand x# to 2\ndeed d: 1/3 x1, 1/3 x#, 1/3 x#+1 gets 0"
        self.assertEqual([stand[0][0] for stand in read_house(text)[0][2]], [((0, (2, 3)), (1, (1, 3))), ((0, (1, 3)), (1, (2, 3)))])

    def test_numbers(self):
        for told, value in (
            ("0", NIL), ("0/5", NIL), ("1/2", HALF), ("2/4", HALF), ("30/60", HALF), ("9/10", (9, 10)),
            ("1/" + "9" * 60, (1, 10 ** 60 - 1)), ("9" * 59 + "8/" + "9" * 60, pair(Fraction(10 ** 60 - 2, 10 ** 60 - 1))),
        ):
            self.assertEqual(read_house(f"share {told}\npays a\nstand x\ndeed d: 1 x gets 0")[0][0], value)
        for told, value in (
            ("-0", NIL), ("-0/3", NIL), ("-2/4", (-1, 2)), ("7", (7, 1)), ("-" + "9" * 60, (1 - 10 ** 60, 1)), ("10/5", (2, 1)),
        ):
            self.assertEqual(read_house(f"share 0\npays a\nstand x\ndeed d: 1 x gets {told}")[0][2][0][0][1], (value,))

    def test_names_that_are_words(self):
        text = "share 0\npays gets, share\nstand gets\ndeed deed: 1/2 gets, 1/2 stand gets 1, 2\nstand stand\ndeed gets: 1 gets gets 0, 0"
        self.assertEqual(read_house(text), reading(text))
        self.assertEqual(house_text(read_house(text)), text)

    def test_no_text(self):
        for wrong in (None, 5, True, b"share 0", ("share 0",), ["share 0"], {}, (), NIL):
            with self.assertRaises(InvalidText) as caught:
                read_house(wrong)
            self.assertEqual((caught.exception.line, caught.exception.place), (None, None))


class ErrorTest(unittest.TestCase):
    def asked(self, text):
        told = read_told(text)
        self.assertEqual(told, reading(text), text)
        return told[0] if type(told[0]) is str else "read"

    def place(self, line, place, *lines):
        with self.assertRaises(InvalidText, msg=lines) as caught:
            read_house("\n".join(lines))
        self.assertEqual((caught.exception.line, caught.exception.place), (line, place), lines)

    def test_by_hand(self):
        rest = ("pays a", "stand x", "deed d: 1 x gets 0")
        self.place(0, 7, "share 01", *rest)
        self.place(0, 8, "share 1/", *rest)
        self.place(0, 8, "share 1/0", *rest)
        self.place(0, 6, "share -1", *rest)
        self.place(0, 7, "share 1 ", *rest)
        self.place(0, 0, "")
        self.place(0, 0, " share 0", *rest)
        self.place(0, 2, "sh", *rest)
        self.place(0, 66, "share " + "1" * 61, *rest)
        self.place(0, 68, "share 1/" + "1" * 61, *rest)
        self.place(1, 0, "share 0")
        self.place(1, 0, "share 0", "stand x")
        self.place(2, 0, "share 0", "pays a")
        self.place(1, 5, "share 0", "pays 1a", *rest[1:])
        self.place(1, 7, "share 0", "pays a,b", *rest[1:])
        self.place(1, 17, "share 0", "pays abcdefghijklm", *rest[1:])
        self.place(1, 15, "share 0", "pays a, b, c, d, e", *rest[1:])
        self.place(2, 0, "share 0", "pays a", "deed d: 1 x gets 0")
        self.place(3, 0, "share 0", "pays a", "stand x")
        self.place(3, 0, "share 0", "pays a", "stand x", "stand y")
        self.place(4, 0, "share 0", *rest, "")
        self.place(4, 0, "share 0", *rest, "pays b")
        self.place(5, 0, "share 0", *rest, "stand y")

    def test_how_many_lines(self):
        head = ["share 0", "pays a"]
        stand = ["stand {}", "deed a: 1 x0 gets 0", "deed b: 1 x0 gets 0", "deed c: 1 x0 gets 0", "deed d: 1 x0 gets 0"]
        full = head + [line.format(f"x{at}") for at in range(8) for line in stand]
        self.assertEqual(read_house("\n".join(full)), reading("\n".join(full)))
        self.place(42, 0, *full, "stand x8")
        self.place(42, 0, *full, "deed e: 1 x0 gets 0")
        self.place(7, 0, *full[:7], "deed e: 1 x0 gets 0")
        self.place(41, 0, *full[:41], "stand x8")
        for many in range(1, 8):
            lines = head + [f"stand y# to {many}", "deed a: 1 y1 gets 0"]
            self.place(4, 12, *lines, f"stand z# to {9 - many}", "deed a: 1 y1 gets 0")
            self.assertEqual(len(read_house("\n".join(lines + [f"stand z# to {8 - many}", "deed a: 1 y1 gets 0"]))[0][2]), 8)
        self.place(4, 0, *head, "stand y# to 8", "deed a: 1 y1 gets 0", "stand z")
        for wrong in ("0", "9", "a", "10"):
            self.place(2, 13 if wrong == "10" else 12, *head, "stand y# to " + wrong, "deed a: 1 y1 gets 0")

    def test_names_with_a_mark(self):
        head = ["share 0", "pays a"]
        for many in (1, 10, 11):
            own = "y" * many
            read_house("\n".join([*head, f"stand {own}# to 1", f"deed {own}: 1 {own}#-7 gets 0#"]))
        self.place(2, 18, *head, f"stand {'y' * 12}# to 1", "deed d: 1 y gets 0")
        self.place(2, 18, *head, f"stand {'y' * 13}", "deed d: 1 y gets 0")
        read_house("\n".join([*head, f"stand {'y' * 12}", f"deed {'z' * 12}: 1 {'y' * 12} gets 0"]))
        self.place(3, 22, *head, "stand y# to 1", f"deed d: 1 {'y' * 12}# gets 0")
        self.place(3, 11, *head, "stand y", "deed d: 1 y# gets 0")
        self.place(3, 18, *head, "stand y", "deed d: 1 y gets 0#")
        self.place(3, 6, *head, "stand y# to 1", "deed d#: 1 y# gets 0")
        self.place(3, 13, *head, "stand y# to 1", "deed d: 1 y#+8 gets 0")
        self.place(3, 13, *head, "stand y# to 1", "deed d: 1 y#+0 gets 0")
        self.place(3, 14, *head, "stand y# to 1", "deed d: 1 y#+11 gets 0")
        self.place(3, 19, *head, "stand y# to 1", "deed d: 1 y gets 0##")
        # In the stand behind the row no # may stand again.
        self.place(5, 11, *head, "stand y# to 1", "deed d: 1 y# gets 0", "stand z", "deed d: 1 y# gets 0")

    def test_parts_and_gains(self):
        head = ["share 0", "pays a, b", "stand x"]
        eight = "deed d: " + ", ".join(["1/8 x"] * 8)
        self.place(3, len(eight), *head, eight + ", 0 x gets 0, 0")
        self.place(3, len(eight) + 7, *head, eight + " gets 0")
        self.place(3, len(eight) + 10, *head, eight + " gets 0, 0, 0")
        self.place(3, len(eight) + 6, *head, eight + " gets ")
        self.place(3, len(eight), *head, eight)
        self.place(3, 10, *head, "deed d: 1  x gets 0, 0")
        self.place(3, 8, *head, "deed d: -1 x gets 0, 0")
        self.place(3, 17, *head, "deed d: 1 x gets +1, 0")
        self.place(3, 18, *head, "deed d: 1 x gets -, 0")

    def test_other_signs(self):
        for sign in ("\r", "\t", "\u00b2", "\u0664", "A", "\u00e4", "_", ".", ";", "\x00", "\u2028", "\x0b"):
            for place in range(len(TOLD) + 1):
                text = TOLD[:place] + sign + TOLD[place:]
                lines = TOLD[:place].split("\n")
                told = read_told(text)
                self.assertEqual(told[:2], ("InvalidText", len(lines) - 1))
                self.assertEqual(told[2], len(lines[-1]), text)

    def test_each_sign_put_in_left_out_or_exchanged(self):
        seen = {}
        for text in (TOLD, LADDER, BOTH, NEAR):
            for place in range(len(text) + 1):
                changed = [text[:place], text[:place] + text[place + 1:]]
                for sign in "a0159z-/#+,: \nst":
                    changed.append(text[:place] + sign + text[place:])
                    changed.append(text[:place] + sign + text[place + 1:])
                for each in changed:
                    kind = self.asked(each)
                    seen[kind] = seen.get(kind, 0) + 1
        for kind in ("read", "InvalidText", "NoSum", "UnknownName", "TwiceNamed", "InvalidNumber"):
            self.assertGreater(seen.get(kind, 0), 2, seen)

    def test_lines_left_out_doubled_or_exchanged(self):
        for text in (TOLD, LADDER, BOTH, NEAR, *[draw_text(seed) for seed in range(12)]):
            lines = text.split("\n")
            for one in range(len(lines)):
                self.asked("\n".join(lines[:one] + lines[one + 1:]))
                self.asked("\n".join(lines[:one + 1] + lines[one:]))
                for two in range(one + 1, len(lines)):
                    order = list(lines)
                    order[one], order[two] = order[two], order[one]
                    self.asked("\n".join(order))

    def test_two_errors(self):
        source = random.Random(5)
        seen = {}
        for turn in range(4000):
            text = source.choice((TOLD, LADDER, BOTH, NEAR))
            for _ in range(source.randint(2, 4)):
                place = source.randrange(len(text))
                sign = source.choice("a1x20")
                text = text[:place] + sign + text[place + source.randint(0, 1):]
            kind = self.asked(text)
            seen[kind] = seen.get(kind, 0) + 1
        self.assertGreater(len(seen), 4)

    def told(self, kind, attributes, *lines):
        with self.assertRaises(kind, msg=lines) as caught:
            read_house("\n".join(lines))
        self.assertEqual(error_told(caught.exception)[1:], attributes, lines)

    def test_share(self):
        rest = ("pays a, a", "stand x", "deed d: 1 y gets 0, 0")
        for told, value in (("1", ONE), ("4/2", (2, 1)), ("3/2", (3, 2)), ("7/7", ONE), ("9" * 60, (10 ** 60 - 1, 1))):
            self.told(InvalidNumber, (value,), "share " + told, *rest)
        self.told(TwiceNamed, (1, 8), "share 0", *rest)
        # The form is looked at first, up to the last line.
        self.told(InvalidText, (3, 19), "share 1", "pays a, a", "stand x", "deed d: 1 y gets 0,0")

    def test_twice_named(self):
        deed = "deed d: 1 x1 gets 0"
        self.told(TwiceNamed, (1, 15), "share 0", "pays a, ab, b, ab", "stand x1", "deed d: 1 x1 gets 0, 0, 0, 0")
        self.told(TwiceNamed, (4, 6), "share 0", "pays a", "stand x1", deed, "stand x1", deed)
        self.told(TwiceNamed, (4, 6), "share 0", "pays a", "stand x# to 2", deed, "stand x1", deed)
        self.told(TwiceNamed, (4, 6), "share 0", "pays a", "stand x2", "deed d: 1 x2 gets 0", "stand x# to 2", deed)
        self.told(TwiceNamed, (4, 6), "share 0", "pays a", "stand x# to 1", deed, "stand x# to 3", deed)
        self.told(TwiceNamed, (5, 5), "share 0", "pays a", "stand x1", deed, "deed e: 1 x1 gets 0", "deed d: 1 y gets 0")
        # The name of a row is no stand's name, and a stand beyond the row is another one.
        for other in ("x", "x3", "x11", "x0"):
            read_house("\n".join(["share 0", "pays x1", "stand x# to 2", "deed x1: 1 x1 gets 0", f"stand {other}", deed]))
        # Names of deeds are compared within a stand, names of pays and stands apart.
        read_house("\n".join(["share 0", "pays d, x1", "stand x1", "deed d: 1 x1 gets 0, 0", "stand d", "deed d: 1 x1 gets 0, 0"]))

    def test_unknown_names(self):
        head = ["share 0", "pays a", "stand x# to 2"]
        self.told(UnknownName, (3, 10), *head, "deed d: 2 x gets 0")
        self.told(UnknownName, (3, 16), *head, "deed d: 1 x1, 1 x3, 1 y gets 0")
        self.told(UnknownName, (3, 10), *head, "deed d: 1 x1# gets 0")
        self.told(UnknownName, (3, 16), *head, "deed d: 1 x#, 0 y#-1 gets 0")
        self.told(UnknownName, (5, 10), *head, "deed d: 1 y gets 0", "stand y", "deed d: 1 z gets 0")
        self.told(UnknownName, (3, 10), *head, "deed d: 1 y# gets 0", "stand y", "deed d: 1 y gets 0")
        self.told(UnknownName, (3, 10), *head, "deed d: 1 a gets 0")
        self.told(TwiceNamed, (4, 5), *head, "deed d: 1 x1 gets 0", "deed d: 1 z gets 0")
        self.told(UnknownName, (3, 10), *head, "deed d: 1 z gets 0", "deed d: 1 z gets 0")

    def test_sums(self):
        head = ["share 0", "pays a", "stand x# to 2"]
        self.told(NoSum, (3, 8), *head, "deed d: 1/2 x1, 1/3 x2 gets 0")
        self.told(NoSum, (3, 9), *head, "deed dd: 2 x# gets 0")
        self.told(NoSum, (4, 8), *head, "deed d: 1 x# gets 0", "deed e: 0 x#, 0 x1 gets 0", "deed f: 1 z gets 0")
        self.told(NoSum, (3, 8), *head, f"deed d: 1/{'9' * 60} x1, {'9' * 59}7/{'9' * 60} x2 gets 0")
        # Line by line: what stands in an earlier line comes first, whatever it is.
        self.told(NoSum, (3, 8), *head, "deed d: 2 x# gets 0", "deed d: 1 z gets 0")
        self.told(NoSum, (3, 8), *head, "deed d: 2 x# gets 0", "stand x1", "deed d: 1 x1 gets 0")
        self.told(TwiceNamed, (4, 6), *head, "deed d: 1 x# gets 0", "stand x1", "deed d: 2 z gets 0")


class PrintTest(unittest.TestCase):
    def test_there_and_back(self):
        for seed in range(80):
            named = draw_named(seed, 1 + seed % 8, 4, 1 + seed % 4)
            text = house_text(named)
            self.assertEqual(text, plain_text(named))
            self.assertEqual(read_house(text), named)
            self.assertIs(form_error(text), None)

    def test_reading_printing_and_reading_again(self):
        for seed in range(80):
            told = read_house(draw_text(seed))
            self.assertEqual(read_house(house_text(told)), told)
            self.assertEqual(house_text(read_house(house_text(told))), house_text(told))

    def test_examples(self):
        self.assertEqual(
            house_text(named_of(COIN)), "share 1/2\npays p0, p1\nstand s0\ndeed d0: 1 s0 gets 2, 0\ndeed d1: 1 s0 gets 0, 2"
        )

    def test_names_of_numbers(self):
        for seed in range(20):
            house = draw_house(seed, 1 + seed % 8, 4, 1 + seed % 4)
            told = named_of(house)
            self.assertIs(is_named(told), True)
            self.assertEqual(told[0], house)
            self.assertEqual(told[1][0], tuple(f"p{at}" for at in range(house[1])))
            self.assertEqual(told[1][1], tuple(f"s{at}" for at in range(len(house[2]))))
            self.assertEqual(told[1][2], tuple(tuple(f"d{at}" for at in range(len(stand))) for stand in house[2]))
        for wrong in (None, MARKET, list(SHOP)):
            with self.assertRaises(InvalidHouse) as caught:
                named_of(wrong)
            self.assertIs(caught.exception.given, wrong)

    def test_more_than_60_digits(self):
        long, last = (10 ** 60, 7), (10 ** 60 - 1, 2)
        parts = {
            "share": ((1, 10 ** 60), HALF), "chance": ((1, 10 ** 60 + 1), (1, 3)), "gain": (long, last), "other": ((-1, 10 ** 61), (1, 9)),
        }

        def named(**wrong):
            share, chance, gain, other = [parts[each][0 if each in wrong else 1] for each in ("share", "chance", "gain", "other")]
            rest = pair(1 - number(chance))
            house = (share, 2, (((((0, chance), (1, rest)), (gain, other)),), ((((1, ONE),), (NIL, other)),)))
            return house, (("a", "b"), ("x", "y"), (("d",), ("d",)))

        order = ("share", "chance", "gain", "other")
        for picked in product((False, True), repeat=4):
            wrong = {each: True for each, is_wrong in zip(order, picked) if is_wrong}
            self.assertIs(is_named(named(**wrong)), True)
            if not wrong:
                self.assertEqual(read_house(house_text(named())), named())
                continue
            with self.assertRaises(InvalidNumber) as caught:
                house_text(named(**wrong))
            self.assertEqual(caught.exception.given, parts[next(each for each in order if each in wrong)][0])
        for value, is_right in (
            ((10 ** 60 - 1, 1), True), ((1 - 10 ** 60, 1), True), ((10 ** 60, 1), False), ((-10 ** 60, 1), False),
            ((1, 10 ** 60 - 1), True), ((1, 10 ** 60), False), (HUGE, False), ((1, 10 ** 5000), False), ((-10 ** 5000, 1), False),
        ):
            one = ((HALF, 1, (((((0, ONE),), (value,)),),)), (("a",), ("x",), (("d",),)))
            if is_right:
                self.assertEqual(read_house(house_text(one)), one)
            else:
                with self.assertRaises(InvalidNumber) as caught:
                    house_text(one)
                self.assertEqual(caught.exception.given, value)

    def test_what_is_read_may_have_more_digits(self):
        nines = "9" * 60
        text = f"share 0\npays a\nstand x# to 8\ndeed d: 1 x# gets {nines}#"
        told = read_house(text)
        self.assertEqual(told[0][2][7][0][1], ((8 * (10 ** 60 - 1), 1),))
        self.assertIs(is_named(told), True)
        with self.assertRaises(InvalidNumber) as caught:
            house_text(told)
        self.assertEqual(caught.exception.given, (2 * (10 ** 60 - 1), 1))


class NamedTest(unittest.TestCase):
    def names(self, names):
        return SHOP, names

    def test_what_is_named(self):
        self.assertIs(is_named(MARKET), True)
        for own, is_right in (
            ("a", True), ("z9", True), ("a" * 12, True), ("a" * 13, False), ("", False), ("9a", False), ("A", False), ("a b", False),
            ("a_", False), ("a#", False), ("a\n", False), (None, False), (b"a", False), (1, False), (("a",), False), ("\u00e4", False),
            ("a\u00b2", False), ("gets", True), ("a-b", False), ("calm", False),
        ):
            told = (((own, "calm"), ("shop", "home"), (("work", "rest"), ("sleep",))),
                    (("money", "peace"), (own, "calm"), (("work", "rest"), ("sleep",))),
                    (("money", "peace"), ("shop", "home"), (("calm", own), ("sleep",))))
            for names in told:
                self.assertIs(is_named(self.names(names)), is_right, names)
        self.assertIs(is_named(self.names((("a", "b"), ("a", "b"), (("a", "b"), ("a",))))), True)

    def test_whatever_it_is(self):
        for value in [*strange_values(), SHOP, TOLD, list(MARKET), MARKET[::-1], (MARKET[0],), MARKET + (None,)]:
            self.assertIs(is_named(value), False, value)
            with self.assertRaises(InvalidNamed) as caught:
                house_text(value)
            self.assertIs(caught.exception.given, value)
        for value in [*bent(MARKET), *bent(named_of(COIN))]:
            self.assertIs(is_named(value), is_named_too(value), value)


class OrderTest(unittest.TestCase):
    def test_examples(self):
        told = reordered(MARKET, (1, 0))
        self.assertEqual(told[0][2][0], ((((1, (1, 1)),), ((0, 1), (0, 1))),))
        self.assertEqual(told[1], (("money", "calm"), ("home", "shop"), (("sleep",), ("work", "rest"))))

    def test_all_orders(self):
        for seed in range(12):
            named = draw_named(seed, 1 + seed % 4, 3, 2)
            many = len(named[0][2])
            for order in permutations(range(many)):
                told = reordered(named, order)
                self.assertIs(is_named(told), True)
                back = tuple(order.index(at) for at in range(many))
                self.assertEqual(reordered(told, back), named)
                for at, old in enumerate(order):
                    self.assertEqual(told[1][1][at], named[1][1][old])
                    self.assertEqual(told[1][2][at], named[1][2][old])
                    for one, two in zip(told[0][2][at], named[0][2][old]):
                        self.assertEqual(one[1], two[1])
                        self.assertEqual({order[to]: chance for to, chance in one[0]}, dict(two[0]))
            self.assertEqual(reordered(named, tuple(range(many))), named)

    def test_the_same_answers_in_that_order(self):
        for seed in range(20):
            named = draw_named(seed, 4, 3, 2)
            source = random.Random(seed)
            order = tuple(source.sample(range(4), 4))
            house, other = named[0], reordered(named, order)[0]
            still, start = draw_still(seed, house), draw_start(seed, house)
            turned, begun = tuple(still[at] for at in order), tuple(start[at] for at in order)
            self.assertEqual(worths_of(other, turned), tuple(worths_of(house, still)[at] for at in order))
            self.assertEqual(pays_of(other, begun, turned), pays_of(house, start, still))
            weights = draw_row(source, 2)
            self.assertEqual(best(other, weights)[0], tuple(best(house, weights)[0][at] for at in order))
            bounds = tuple(pair(number(each) + Fraction(seed % 3 - 1, 4)) for each in pays_of(house, start, still))
            self.assertEqual(keep(other, begun, bounds)[0], keep(house, start, bounds)[0])
            goals = (source.randrange(4),)
            moved = (order.index(goals[0]),)
            for call in (greatest_coming, least_coming):
                self.assertEqual(call(other, moved)[0], tuple(call(house, goals)[0][at] for at in order))

    def test_what_is_no_order(self):
        for wrong, index in (
            (None, None), ((), None), ((0,), None), ((0, 1, 2), None), ([1, 0], None), ("10", None), (5, None), ({}, None),
            ((0, 0), 1), ((1, 1), 1), ((2, 0), 0), ((0, 2), 1), ((-1, 0), 0), ((0, -1), 1), ((True, 0), 0), ((0, True), 1),
            ((None, 0), 0), ((1, None), 1), ((1, "0"), 1), (((1,), 0), 0), ((1, False), 1), ((10 ** 399, 0), 0),
        ):
            with self.assertRaises(InvalidOrder, msg=wrong) as caught:
                reordered(MARKET, wrong)
            self.assertEqual(caught.exception.index, index, wrong)
        with self.assertRaises(InvalidNamed) as caught:
            reordered(SHOP, None)
        self.assertIs(caught.exception.given, SHOP)


if __name__ == "__main__":
    unittest.main()
