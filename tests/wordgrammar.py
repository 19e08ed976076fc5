"""A second way to read starts, bounds, plans and a console's lines, for the tests: the form by derivatives."""

import re
from fractions import Fraction

from tests.grammar import NOTHING, NUMBER, SIGNED, behind, either, may_end, name, spots, then, times, told_row, word
from tests.helpers import pair

START = told_row(then(NUMBER, word(" "), name(12)), 1, 8)
BOUNDS = either(word("none"), told_row(then(name(12), word(" at least "), SIGNED), 1, 4))
ONE_PLAN = then(name(12), word(": "), told_row(then(NUMBER, word(" "), name(12)), 1, 4))
PLAN = then(ONE_PLAN, times(then(word("; "), ONE_PLAN), 0, 7))
DICE = then(NUMBER, times(then(word(" "), NUMBER, word(" "), NUMBER), 0, 60))
SPOKEN = either(
    then(word("begin "), START), then(word("wish "), BOUNDS), then(word("settle "), BOUNDS), then(word("plan "), PLAN),
    word("undo"), *[word("show " + each) for each in ("house", "begin", "wish", "plan", "pays")],
    then(word("best "), name(12)), then(word("run "), DICE),
)


def wrong_place(told, text):
    """The place at which the text is not of the told form; None."""
    for place, sign in enumerate(text):
        told = behind(told, sign)
        if told == NOTHING:
            return place
    return None if may_end(told) else len(text)


def odds_told(text, first, names):
    """The row of a text of chances, which begins at a place of the line, or the error."""
    parts = []
    for part, place in spots("", first, text):
        chance, own = part.split(" ")
        if own not in names:
            return "UnknownName", 0, place + len(chance) + 1
        parts.append((own, Fraction(chance)))
    if sum(chance for _, chance in parts) != 1:
        return "NoSum", 0, first
    return tuple(pair(sum(chance for own, chance in parts if own == each)) for each in names)


def start_reading(named, text, first=0):
    """The start that a text tells behind a place of the line, or the name of the error with what it tells."""
    wrong = wrong_place(START, text[first:])
    if wrong is not None:
        return "InvalidText", 0, first + wrong
    return odds_told(text[first:], first, named[1][1])


def bounds_reading(named, text, first=0):
    wrong = wrong_place(BOUNDS, text[first:])
    if wrong is not None:
        return "InvalidText", 0, first + wrong
    pays = named[1][0]
    told = {}
    if text[first:] != "none":
        for part, place in spots("", first, text[first:]):
            own, number = re.fullmatch(r"([a-z0-9]+) at least (\S+)", part).groups()
            if own not in pays:
                return "UnknownName", 0, place
            if own in told:
                return "TwiceNamed", 0, place
            told[own] = pair(Fraction(number))
    return tuple(told.get(own) for own in pays)


def plan_reading(named, text, first=0):
    wrong = wrong_place(PLAN, text[first:])
    if wrong is not None:
        return "InvalidText", 0, first + wrong
    _, stands, deeds = named[1]
    told, place = {}, first
    for part in text[first:].split("; "):
        own, _, odds = part.partition(": ")
        if own not in stands:
            return "UnknownName", 0, place
        if own in told:
            return "TwiceNamed", 0, place
        row = odds_told(odds, place + len(own) + 2, deeds[stands.index(own)])
        if isinstance(row[0], str):
            return row
        told[own] = row
        place += len(part) + 2
    nothing = [((1, 1),) + ((0, 1),) * (len(own) - 1) for own in deeds]
    return tuple(told.get(own, other) for own, other in zip(stands, nothing))


def spoilt(text, signs):
    """The text cut off at each place, and with each sign left out, or another one put in, or in its place."""
    for place in range(len(text) + 1):
        yield text[:place]
        yield text[:place] + text[place + 1:]
        for sign in signs:
            yield text[:place] + sign + text[place:]
            yield text[:place] + sign + text[place + 1:]
