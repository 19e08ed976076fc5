"""A second way to read texts of houses, for the tests: lines by derivatives, then names and sums by patterns."""

import re
from fractions import Fraction

from tests.helpers import pair

# Languages are numbers; KINDS tells of each one what it is made of, so that like ones are one.
KINDS, NUMBERS, BEHIND = [], {}, {}


def language(*kind):
    if kind not in NUMBERS:
        NUMBERS[kind] = len(KINDS)
        KINDS.append(kind)
    return NUMBERS[kind]


NOTHING, END = language("nothing"), language("end")


def signs(told):
    return language("signs", "".join(sorted(set(told)))) if told else NOTHING


def then(*parts):
    made = END
    for part in reversed(parts):
        if part == NOTHING or made == NOTHING:
            return NOTHING
        if part != END:
            made = part if made == END else language("then", part, made)
    return made


def either(*parts):
    told = sorted({part for part in parts if part != NOTHING})
    if not told:
        return NOTHING
    return told[0] if len(told) == 1 else language("either", tuple(told))


def times(part, least, most):
    if most == 0 or part == NOTHING:
        return END if least == 0 else NOTHING
    return language("times", part, least, most)


def word(text):
    return then(*[signs(each) for each in text])


def may_end(told):
    kind = KINDS[told]
    if kind[0] == "end":
        return True
    if kind[0] == "then":
        return may_end(kind[1]) and may_end(kind[2])
    if kind[0] == "either":
        return any(may_end(part) for part in kind[1])
    return kind[0] == "times" and (kind[2] == 0 or may_end(kind[1]))


def behind(told, sign):
    """The language of what may stand behind this sign."""
    if (told, sign) not in BEHIND:
        BEHIND[told, sign] = found(KINDS[told], sign)
    return BEHIND[told, sign]


def found(kind, sign):
    if kind[0] == "signs":
        return END if sign in kind[1] else NOTHING
    if kind[0] == "then":
        first = then(behind(kind[1], sign), kind[2])
        return either(first, behind(kind[2], sign)) if may_end(kind[1]) else first
    if kind[0] == "either":
        return either(*[behind(part, sign) for part in kind[1]])
    if kind[0] == "times":
        return then(behind(kind[1], sign), times(kind[1], max(kind[2] - 1, 0), kind[3] - 1))
    return NOTHING


LETTERS, DIGITS = "abcdefghijklmnopqrstuvwxyz", "0123456789"
ROW = then(signs(DIGITS[1:]), times(signs(DIGITS), 0, 59))
NUMBER = then(either(word("0"), ROW), times(then(word("/"), ROW), 0, 1))
SIGNED = then(times(word("-"), 0, 1), NUMBER)


def name(most):
    return then(signs(LETTERS), times(signs(LETTERS + DIGITS), 0, most - 1))


def told_row(part, least, most):
    """So many parts, parted by a comma and a blank."""
    return then(part, times(then(word(", "), part), least - 1, most - 1))


SHARE = then(word("share "), NUMBER)
PAYS = then(word("pays "), told_row(name(12), 1, 4))


def stand_line(left):
    return then(word("stand "), either(name(12), then(name(11), word("# to "), signs(DIGITS[1:left + 1]))))


def deed_line(pays, in_row):
    marked = then(name(11), word("#"), times(then(signs("+-"), signs("1234567")), 0, 1))
    part = then(NUMBER, word(" "), either(name(12), marked) if in_row else name(12))
    gain = then(SIGNED, times(word("#"), 0, 1)) if in_row else SIGNED
    return then(word("deed "), name(12), word(": "), told_row(part, 1, 8), word(" gets "), told_row(gain, pays, pays))


def form_error(text):
    """(LINE, PLACE) of the first line that is not as told; None."""
    lines = text.split("\n")
    pays, left, deeds, in_row = 0, 8, None, False
    for index, line in enumerate(lines):
        able = []
        if index < 2:
            able = [(SHARE, PAYS)[index]]
        else:
            if deeds is not None and deeds < 4:
                able.append(deed_line(pays, in_row))
            if deeds != 0 and left > 0:
                able.append(stand_line(left))
        told = either(*able)
        for place, sign in enumerate(line):
            told = behind(told, sign)
            if told == NOTHING:
                return index, place
        if told == NOTHING or not may_end(told):
            return index, len(line)
        if index == 1:
            pays = line.count(",") + 1
        if line.startswith("stand"):
            in_row = "#" in line
            left -= int(line[-1]) if in_row else 1
            deeds = 0
        elif line.startswith("deed"):
            deeds += 1
    return None if len(lines) > 2 and deeds else (len(lines), 0)


def spots(line, first, parts):
    """The parts of a row with their places in the line."""
    made = []
    for part in parts.split(", "):
        made.append((part, first))
        first += len(part) + 2
    return made


def stands_told(lines):
    """(INDEX, NAME, HOW MANY or None, LINES OF DEEDS) of each stand's line."""
    told = []
    for index, line in enumerate(lines):
        if line.startswith("stand"):
            own = re.fullmatch(r"stand ([a-z0-9]+)(?:# to (\d))?", line)
            told.append((index, own[1], own[2] and int(own[2]), []))
        elif line.startswith("deed"):
            told[-1][3].append(index)
    return told


def written_names(stand):
    _, own, many, _ = stand
    return [own] if many is None else [f"{own}{at}" for at in range(1, many + 1)]


def reading(text):
    """The named house, or the name of the error with what it tells."""
    wrong = form_error(text)
    if wrong:
        return ("InvalidText", *wrong)
    lines = text.split("\n")
    share = Fraction(lines[0][6:])
    if share >= 1:
        return "InvalidNumber", pair(share)
    pays = [own for own, _ in spots(lines[1], 5, lines[1][5:])]
    for at, (own, place) in enumerate(spots(lines[1], 5, lines[1][5:])):
        if own in pays[:at]:
            return "TwiceNamed", 1, place
    stands = stands_told(lines)
    every = [own for stand in stands for own in written_names(stand)]
    rows = {stand[1]: stand[2] for stand in stands if stand[2] is not None}
    made, names = [], []
    for at, stand in enumerate(stands):
        ahead = [own for other in stands[:at] for own in written_names(other)]
        if set(ahead) & set(written_names(stand)):
            return "TwiceNamed", stand[0], 6
        told = [deed_told(lines[index]) for index in stand[3]]
        for index, (own, chances, _) in zip(stand[3], told):
            wrong = deed_error(index, own, [each[0] for each in told[:index - stand[3][0]]], chances, every, rows)
            if wrong:
                return wrong
        for number in range(1, (stand[2] or 1) + 1):
            made.append(tuple(deed_of(number, deed, every, rows) for deed in told))
            names.append(tuple(own for own, _, _ in told))
    return (pair(share), len(pays), tuple(made)), (tuple(pays), tuple(every), tuple(names))


def deed_told(line):
    """(NAME, [(CHANCE, its place, NAME, its place, what is behind a # or None)], GAINS)."""
    own, parts, gains = re.fullmatch(r"deed ([a-z0-9]+): (.*) gets (.*)", line).groups()
    chances = []
    for part, place in spots(line, 7 + len(own), parts):
        chance, stand, mark = re.fullmatch(r"(\S+) ([a-z0-9]+)(#.*)?", part).groups()
        chances.append((Fraction(chance), place, stand, place + len(chance) + 1, mark))
    return own, chances, gains.split(", ")


def deed_error(index, own, ahead, chances, every, rows):
    if own in ahead:
        return "TwiceNamed", index, 5
    for _, _, stand, place, mark in chances:
        if (stand not in rows) if mark else (stand not in every):
            return "UnknownName", index, place
    if sum(each[0] for each in chances) != 1:
        return "NoSum", index, chances[0][1]
    return None


def deed_of(number, deed, every, rows):
    _, chances, gains = deed
    sums = [Fraction(0)] * len(every)
    for chance, _, stand, _, mark in chances:
        if mark:
            steps = int(mark[1:] or 0)
            stand = f"{stand}{sorted((1, number + steps, rows[stand]))[1]}"
        sums[every.index(stand)] += chance
    row = [Fraction(each.rstrip("#")) * (number if each.endswith("#") else 1) for each in gains]
    return tuple((at, pair(each)) for at, each in enumerate(sums) if each), tuple(pair(each) for each in row)


def written_out(text):
    """The text without # in which each row is written out, stand by stand."""
    lines = text.split("\n")
    stands = stands_told(lines)
    rows = {stand[1]: stand[2] for stand in stands if stand[2] is not None}
    made = lines[:2]
    for stand in stands:
        for number, own in enumerate(written_names(stand), 1):
            made.append("stand " + own)
            for index in stand[3]:
                name_of, chances, gains = deed_told(lines[index])
                parts = []
                for chance, _, other, _, mark in chances:
                    if mark:
                        other += str(sorted((1, number + int(mark[1:] or 0), rows[other]))[1])
                    parts.append(f"{chance} {other}")
                row = [str(Fraction(each.rstrip("#")) * (number if each.endswith("#") else 1)) for each in gains]
                made.append(f"deed {name_of}: {', '.join(parts)} gets {', '.join(row)}")
    return "\n".join(made)
