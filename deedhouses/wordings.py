"""Starts, bounds and still plans in words: one line each."""

from deedhouses.bounds import check_bounds
from deedhouses.errors import TwiceNamed, UnknownName
from deedhouses.forms import chance_parts
from deedhouses.houses import check_start
from deedhouses.language import check_named, number_text
from deedhouses.lines import only_line
from deedhouses.plans import check_still, plain_odds
from deedhouses.ratios import NOUGHT, total
from deedhouses.readings import check_known, check_sum


def read_start(named, text):
    """The start that the line tells."""
    check_named(named)
    return told_start(named, only_line(text))


def told_start(named, line):
    """The start that the rest of a line tells."""
    parts = chance_parts(line, 8, False)
    line.end()
    return row_by(line, parts, named[1][1])


def row_by(line, parts, names):
    """The row of the chances that parts tell of the names; UnknownName, then NoSum."""
    check_known(line.index, parts, (names, ()))
    check_sum(line.index, parts)
    return tuple([total([part[0] for part in parts if part[2] == name]) for name in names])


def start_text(named, start):
    """The line of the start."""
    check_named(named)
    check_start(named[0], start)
    return row_text(start, named[1][1])


def row_text(row, names):
    """The parts of the chances above 0."""
    return ", ".join([number_text(chance) + " " + name for chance, name in zip(row, names) if chance != NOUGHT])


def read_bounds(named, text):
    """The bounds that the line tells."""
    check_named(named)
    return told_bounds(named, only_line(text))


def told_bounds(named, line):
    """The bounds that the rest of a line tells."""
    pays = named[1][0]
    told = {}
    for name, place, number in bound_parts(line):
        check_name(line, name, place, pays, told)
        told[name] = number
    return tuple([told.get(name) for name in pays])


def bound_parts(line):
    """(NAME, its place, NUMBER) of each of up to four parts; none for a single none."""
    named = line.name()
    # A pay may be named so, too: then more stands behind its name.
    if named[0] == "none" and line.is_end():
        return []
    parts = [bound_part(line, named)]
    while len(parts) < 4 and line.is_next(","):
        line.word(", ")
        parts.append(bound_part(line, line.name()))
    line.end()
    return parts


def bound_part(line, named):
    """A part of bounds, of which the name is read already."""
    line.word(" at least ")
    return named[0], named[1], line.signed()


def bounds_text(named, bounds):
    """The line of the bounds."""
    check_named(named)
    check_bounds(named[0], bounds)
    parts = []
    for name, bound in zip(named[1][0], bounds):
        if bound is not None:
            parts.append(name + " at least " + number_text(bound))
    return ", ".join(parts) if parts else "none"


def read_plan(named, text):
    """The still plan that the line tells."""
    check_named(named)
    return told_plan(named, only_line(text))


def told_plan(named, line):
    """The still plan that the rest of a line tells; a stand that is not told does its deed 0."""
    _, stands, deeds = named[1]
    told = {}
    for name, place, parts in plan_parts(line):
        check_name(line, name, place, stands, told)
        told[name] = row_by(line, parts, deeds[stands.index(name)])
    return tuple([told.get(name, plain_odds(0, len(own))) for name, own in zip(stands, deeds)])


def plan_parts(line):
    """(NAME, its place, ODDS) of each of up to eight parts."""
    parts = [plan_part(line)]
    while len(parts) < 8 and line.is_next(";"):
        line.word("; ")
        parts.append(plan_part(line))
    line.end()
    return parts


def plan_part(line):
    """A part of a plan: ODDS are of the form of CHANCES, up to four."""
    name, place = line.name()
    line.word(": ")
    return name, place, chance_parts(line, 4, False)


def plan_text(named, still):
    """The line of the still plan."""
    check_named(named)
    check_still(named[0], still)
    _, stands, deeds = named[1]
    return "; ".join([name + ": " + row_text(odds, own) for name, odds, own in zip(stands, still, deeds)])


def check_name(line, name, place, names, told):
    """Raises UnknownName for none of the names, TwiceNamed for one that is told already."""
    if name not in names:
        raise UnknownName(line.index, place)
    if name in told:
        raise TwiceNamed(line.index, place)
