"""Houses known in part: stretches of chances, which houses fit, how stretches are filled, their corners."""

from deedhouses.errors import InvalidFlag, InvalidStretches, InvalidVague, InvalidWorths
from deedhouses.houses import all_ways, check_house, is_frame, is_house
from deedhouses.plans import check_choice
from deedhouses.ratios import NOUGHT, ONE, common_bottom, is_below, is_fraction, is_from_nought, is_tuple, is_within
from deedhouses.ratios import minus, plus, ratio, scaled, total


def is_vague(value):
    """Whether any value is a vague house."""
    return is_frame(value) and all([are_stretches(ways, len(value[2])) for ways in all_ways(value)])


def are_stretches(value, stands):
    """Whether any value is the STRETCHES of a deed in a vague house of so many stands."""
    if not isinstance(value, tuple):
        return False
    least = 0
    for each in value:
        if not is_tuple(each, 3) or not is_within(each[0], least, stands - 1) or not is_stretch(each[1], each[2]):
            return False
        least = each[0] + 1
    lows = total([low for _, low, _ in value])
    highs = total([high for _, _, high in value])
    return not is_below(ONE, lows) and not is_below(highs, ONE)


def is_stretch(low, high):
    """Whether any two values are fractions from 0 to 1, the first one up to the second one."""
    if not is_from_nought(low) or not is_from_nought(high):
        return False
    return not is_below(high, low) and not is_below(ONE, high)


def fits(vague, house):
    """Whether any value, HOUSE, is a house that fits the vague one."""
    check_vague(vague)
    return does_fit(vague, house)


def does_fit(vague, house):
    """Whether any value, HOUSE, is a house that fits what is known to be a vague one."""
    if not is_house(house) or house[:2] != vague[:2] or len(house[2]) != len(vague[2]):
        return False
    return all([does_stand_fit(told, stand) for told, stand in zip(vague[2], house[2])])


def does_stand_fit(told, stand):
    """Whether a stand of a house fits that of a vague house."""
    if len(told) != len(stand):
        return False
    for (stretches, told_gains), (chances, gains) in zip(told, stand):
        if gains != told_gains or not are_within(stretches, chances):
            return False
    return True


def are_within(stretches, chances):
    """Whether the CHANCES are from LOW to HIGH for the told stands, none for others."""
    row = dict(chances)
    for stand, low, high in stretches:
        chance = row.get(stand, NOUGHT)
        if is_below(chance, low) or is_below(high, chance):
            return False
    told = [stand for stand, _, _ in stretches]
    return all([stand in told for stand, _ in chances])


def vague_of(house):
    """The vague house that this house alone fits."""
    check_house(house)
    share, pays, stands = house
    made = []
    for stand in stands:
        made.append(tuple([(tuple([(at, each, each) for at, each in chances]), gains) for chances, gains in stand]))
    return share, pays, tuple(made)


def filled(stretches, worths, is_greatest):
    """The CHANCES, within the stretches, with the least sum with the worths, or with the greatest one."""
    check_stretches(stretches)
    check_told_worths(stretches, worths)
    if is_greatest is not True and is_greatest is not False:
        raise InvalidFlag(is_greatest)
    return filled_chances(stretches, worths, is_greatest)


def filled_chances(stretches, worths, is_greatest):
    """The filled CHANCES, where all arguments are known to be right."""
    left = minus(ONE, total([low for _, low, _ in stretches]))
    given = {}
    for stand, low, high in in_order(stretches, worths, is_greatest):
        more = minus(high, low)
        if is_below(left, more):
            more = left
        left = minus(left, more)
        given[stand] = plus(low, more)
    return tuple([(stand, given[stand]) for stand, _, _ in stretches if given[stand] != NOUGHT])


def in_order(stretches, worths, is_greatest):
    """The stretches in the order in which they are filled."""
    row = [worths[stand] for stand, _, _ in stretches]
    # Over one divisor the worths are compared as whole numbers.
    wholes = scaled(row, common_bottom(row))
    sign = -1 if is_greatest else 1
    places = sorted([(sign * whole, at) for at, whole in enumerate(wholes)])
    return [stretches[place] for _, place in places]


def filled_house(vague, worths, is_greatest):
    """The house that fits, with all deeds filled by the worths."""
    share, pays, stands = vague
    made = []
    for stand in stands:
        made.append(tuple([(filled_chances(ways, worths, is_greatest), gains) for ways, gains in stand]))
    return share, pays, tuple(made)


def corners(stretches):
    """All corner rows, ascending: a chance for each told stand."""
    check_stretches(stretches)
    return corner_rows(stretches)


def corner_rows(stretches):
    """All corner rows of what is known to be stretches."""
    lows = [low for _, low, _ in stretches]
    highs = [high for _, _, high in stretches]
    bottom = common_bottom(lows + highs)
    rows = whole_corners(scaled(lows, bottom), scaled(highs, bottom), bottom)
    return tuple([tuple([ratio(each, bottom) for each in row]) for row in rows])


def whole_corners(lows, highs, whole):
    """The corner rows in whole numbers, each row of the sum WHOLE."""
    found = {}
    for free, (low, high) in enumerate(zip(lows, highs)):
        for row in rows_of_ends(lows, highs, free):
            rest = whole - sum(row)
            if low <= rest and rest <= high:
                found[row[:free] + (rest,) + row[free + 1:]] = True
    return sorted(list(found))


def rows_of_ends(lows, highs, free):
    """All rows of ends, with 0 at the place that is free."""
    rows = [()]
    for at, (low, high) in enumerate(zip(lows, highs)):
        if at == free:
            ends = [0]
        elif low == high:
            ends = [low]
        else:
            ends = [low, high]
        rows = [row + (end,) for row in rows for end in ends]
    return rows


def corner_houses(vague, choice):
    """In how many houses each row that the choice does is a corner."""
    check_vague(vague)
    check_choice(vague, choice)
    return count_corners(vague, choice)


def count_corners(vague, choice):
    """How many corner houses there are, where both arguments are known to be right."""
    many = 1
    for stand, deed in zip(vague[2], choice):
        many = many * len(corner_rows(stand[deed][0]))
    return many


def check_vague(vague):
    """Raises InvalidVague for no vague house."""
    if not is_vague(vague):
        raise InvalidVague(vague)


def check_stretches(stretches):
    """Raises InvalidStretches for no stretches of a vague house of 8 stands."""
    if not are_stretches(stretches, 8):
        raise InvalidStretches(stretches)


def check_told_worths(stretches, worths):
    """Raises InvalidWorths for no row of up to 8 fractions, one for each told stand among them."""
    if not isinstance(worths, tuple) or not is_within(len(worths), stretches[-1][0] + 1, 8):
        raise InvalidWorths(None)
    for at, worth in enumerate(worths):
        if not is_fraction(worth):
            raise InvalidWorths(at)
