"""What the form of a text tells: names that are there, sums, and the named house."""

from deedhouses.errors import InvalidNumber, NoSum, TwiceNamed, UnknownName
from deedhouses.ratios import NOUGHT, ONE, is_below, plus, times, total


def named_house(form):
    """The named house of a form; the first error of its names and sums, line by line."""
    share, pays, stands = form
    spots = stand_spots(stands)
    check_form(form, spots)
    made, deed_names = [], []
    for _, _, _, many, deeds in stands:
        for number in range(1, (1 if many is None else many) + 1):
            made.append(tuple([told_deed(deed, number, spots) for deed in deeds]))
            deed_names.append(tuple([name for _, (name, _), _, _ in deeds]))
    names = tuple([name for name, _ in pays]), tuple(stand_names(stands)), tuple(deed_names)
    return (share, len(pays), tuple(made)), names


def own_names(stand):
    """The names of the stands that a stand's line tells."""
    _, name, _, many, _ = stand
    if many is None:
        return [name]
    return [name + str(number) for number in range(1, many + 1)]


def stand_names(stands):
    """The names of all stands, in the order of their indexes."""
    return [name for stand in stands for name in own_names(stand)]


def stand_spots(stands):
    """The pair of the index of each stand's name, and of the first index and the length of each row's name."""
    rows = {}
    first = 0
    for stand in stands:
        many = len(own_names(stand))
        if stand[3] is not None:
            rows[stand[1]] = first, many
        first += many
    return {name: at for at, name in enumerate(stand_names(stands))}, rows


def check_form(form, spots):
    """Raises the first error of the share, of names and of sums, line by line."""
    share, pays, stands = form
    if not is_below(share, ONE):
        raise InvalidNumber(share)
    check_once(1, pays)
    there = []
    for stand in stands:
        index, _, place, _, deeds = stand
        if any([name in there for name in own_names(stand)]):
            raise TwiceNamed(index, place)
        there.extend(own_names(stand))
        check_deeds(deeds, spots)


def check_deeds(deeds, spots):
    """Raises the first error of the lines of one stand's deeds."""
    there = []
    for index, (name, place), parts, _ in deeds:
        if name in there:
            raise TwiceNamed(index, place)
        there.append(name)
        check_known(index, parts, spots)
        check_sum(index, parts)


def check_once(index, names):
    """Raises TwiceNamed for the first of the names, with their places, that stands there already."""
    there = []
    for name, place in names:
        if name in there:
            raise TwiceNamed(index, place)
        there.append(name)


def check_known(index, parts, spots):
    """Raises UnknownName for the first part whose name is none of a stand, or of a row for one with #."""
    names, rows = spots
    for _, _, name, place, steps in parts:
        is_known = name in names if steps is None else name in rows
        if not is_known:
            raise UnknownName(index, place)


def check_sum(index, parts):
    """Raises NoSum for parts whose numbers are not 1 together."""
    if total([part[0] for part in parts]) != ONE:
        raise NoSum(index, parts[0][1])


def told_deed(deed, number, spots):
    """The deed of the stand with this number in its row."""
    _, _, parts, gains = deed
    row = [times(gain, (number, 1)) if is_marked else gain for gain, is_marked in gains]
    return added([(spot_of(part, number, spots), part[0]) for part in parts]), tuple(row)


def spot_of(part, number, spots):
    """The index of the stand that a part names in the lines of the stand with this number."""
    names, rows = spots
    _, _, name, _, steps = part
    if steps is None:
        return names[name]
    first, many = rows[name]
    return first + min(max(number + steps, 1), many) - 1


def added(parts):
    """The CHANCES of pairs of a stand and a chance: each stand once, ascending, none of chance 0."""
    sums = {}
    for at, chance in parts:
        sums[at] = plus(sums.get(at, NOUGHT), chance)
    return tuple([(at, sums[at]) for at in sorted(sums) if sums[at] != NOUGHT])
