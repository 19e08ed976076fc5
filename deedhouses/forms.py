"""The form of the text of a house: what each of its lines tells; names and sums are not looked at here."""

from deedhouses.errors import InvalidText
from deedhouses.lines import Line


def house_form(text):
    """(SHARE, PAYS, STANDS) of a text.

    PAYS are pairs of a name and its place. Each of STANDS is the list of (LINE, NAME, PLACE, MANY,
    DEEDS), MANY being None for a single stand; each of DEEDS is (LINE, (NAME, PLACE), PARTS, GAINS),
    each of GAINS a pair of the number and whether a # stands behind it.
    """
    lines = [Line(index, line) for index, line in enumerate(text.split("\n"))]
    share = share_line(lines[0])
    if len(lines) < 2:
        raise InvalidText(1, 0)
    pays = pays_line(lines[1])
    return share, pays, stand_forms(lines[2:], len(pays))


def share_line(line):
    """The share that the line tells."""
    line.word("share ")
    share = line.number()
    line.end()
    return share


def pays_line(line):
    """The pays' names that the line tells, with their places."""
    line.word("pays ")
    names = [line.name()]
    while len(names) < 4 and line.is_next(","):
        line.word(", ")
        names.append(line.name())
    line.end()
    return names


def stand_forms(lines, pays):
    """What the lines behind the first two tell of the stands."""
    stands = []
    left = 8
    for line in lines:
        can_deed = len(stands) > 0 and len(stands[-1][4]) < 4
        can_stand = left > 0 and (len(stands) == 0 or len(stands[-1][4]) > 0)
        if can_deed and line.is_next("d"):
            stands[-1][4].append(deed_line(line, pays, stands[-1][3] is not None))
        elif can_stand:
            stands.append(stand_line(line, left))
            left -= 1 if stands[-1][3] is None else stands[-1][3]
        else:
            raise InvalidText(line.index, 0)
    if not stands or not stands[-1][4]:
        raise InvalidText(len(lines) + 2, 0)
    return stands


def stand_line(line, left):
    """The stand, or the row of stands, that the line tells, where so many stands are left; no deeds yet."""
    line.word("stand ")
    name, place = line.name()
    many = None
    if is_mark_next(line, name):
        line.word("# to ")
        many = int(line.sign("12345678"[:left]))
    line.end()
    return line.index, name, place, many, []


def is_mark_next(line, name):
    """Whether a # is behind the name that was just read: such a name is shorter by one sign."""
    return len(name) < 12 and line.is_next("#")


def deed_line(line, pays, in_row):
    """The deed that the line tells; only in a row of stands a # may stand."""
    line.word("deed ")
    named = line.name()
    line.word(": ")
    parts = chance_parts(line, 8, in_row)
    line.word(" gets ")
    gains = [gain(line, in_row)]
    while len(gains) < pays:
        line.word(", ")
        gains.append(gain(line, in_row))
    line.end()
    return line.index, named, parts, gains


def chance_parts(line, most, in_row):
    """One part of CHANCES or ODDS, or more, up to the told number."""
    parts = [chance_part(line, in_row)]
    while len(parts) < most and line.is_next(","):
        line.word(", ")
        parts.append(chance_part(line, in_row))
    return parts


def chance_part(line, in_row):
    """(NUMBER, its place, NAME, its place, STEPS) of a part; STEPS up the row, None for a name without #."""
    first = line.at
    number = line.number()
    line.word(" ")
    name, place = line.name()
    steps = None
    if in_row and is_mark_next(line, name):
        line.word("#")
        steps = steps_up(line)
    return number, first, name, place, steps


def steps_up(line):
    """How many stands up the row are told behind a #."""
    if line.is_next("+"):
        line.word("+")
        return int(line.sign("1234567"))
    if line.is_next("-"):
        line.word("-")
        return -int(line.sign("1234567"))
    return 0


def gain(line, in_row):
    """The pair of a gain and whether a # stands behind it."""
    number = line.signed()
    is_marked = in_row and line.is_next("#")
    if is_marked:
        line.word("#")
    return number, is_marked
