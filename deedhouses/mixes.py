"""Mixes: a choice is thrown once, at the beginning."""

from deedhouses.errors import InvalidMix
from deedhouses.houses import check_house, check_start
from deedhouses.plans import check_still, fits_choice, plain_plan
from deedhouses.ratios import NOUGHT, ONE, column, dot, is_below, is_from_nought, is_tuple, minus, over, times, total
from deedhouses.shares import shares_from
from deedhouses.tableaus import greatest_corner
from deedhouses.worths import pays_from


def is_mix(house, value):
    """Whether any value is a mix."""
    check_house(house)
    return fits_mix(house, value)


def fits_mix(house, value):
    """Whether any value is a mix in what is known to be a house."""
    if not is_thrown(value):
        return False
    choices = [choice for _, choice in value]
    return all([fits_choice(house, choice) for choice in choices]) and is_ascending(choices)


def is_thrown(value):
    """Whether any value is a tuple of pairs of a chance above 0 and whatever it is, the chances of sum 1."""
    if not isinstance(value, tuple):
        return False
    for part in value:
        if not is_tuple(part, 2) or not is_from_nought(part[0]) or part[0] == NOUGHT:
            return False
    return total([chance for chance, _ in value]) == ONE


def is_ascending(values):
    """Whether each of the values is above the one before it."""
    return all([one < two for one, two in zip(values, values[1:])])


def mix_pays(house, start, mix):
    """The pays of the mix: the mean of its choices' pays."""
    check_house(house)
    check_start(house, start)
    check_mix(house, mix)
    return mean_pays(mix, [pays_from(house, start, plain_plan(house, choice)) for _, choice in mix])


def mean_pays(mix, rows):
    """The mean of the rows of pays by the chances of the mix."""
    chances = [chance for chance, _ in mix]
    return tuple([dot(chances, column(rows, pay)) for pay in range(len(rows[0]))])


def mix_of(house, start, still):
    """A mix of at most one choice more than there are pays, with the still plan's pays."""
    check_house(house)
    check_start(house, start)
    check_still(house, still)
    choices = parts_of(house, start, still)
    rows = [[ONE] + list(pays_from(house, start, plain_plan(house, choice))) for choice in choices]
    rights = [ONE] + list(pays_from(house, start, still))
    # A corner has at most as many numbers above 0 as there are rows: one for each pay, one for the sum.
    chances = greatest_corner(rows, rights, [NOUGHT] * len(rows))[1]
    found = [(choice, chance) for choice, chance in zip(choices, chances) if chance != NOUGHT]
    return tuple([(chance, choice) for choice, chance in sorted(found)])


def parts_of(house, start, still):
    """Choices, each once, of whose shares the still plan's shares are a mean."""
    shares = shares_from(house, start, still)
    choices = []
    while True:
        choice = tuple([first_above(row) for row in shares])
        choices.append(choice)
        own = shares_from(house, start, plain_plan(house, choice))
        if own == shares:
            return choices
        shares = rest_of(shares, own)


def first_above(row):
    """The first index with a number above 0; 0 where there is none."""
    for at, number in enumerate(row):
        if number != NOUGHT:
            return at
    return 0


def rest_of(shares, own):
    """What is left of the shares when as much of the own ones is taken out as is in them, as shares again."""
    part = greatest_part(shares, own)
    left = minus(ONE, part)
    made = []
    for row, taken in zip(shares, own):
        made.append(tuple([over(minus(one, times(part, two)), left) for one, two in zip(row, taken)]))
    return tuple(made)


def greatest_part(shares, own):
    """The greatest number that the own shares times it are nowhere above the shares."""
    part = ONE
    for row, taken in zip(shares, own):
        for one, two in zip(row, taken):
            if two != NOUGHT and is_below(over(one, two), part):
                part = over(one, two)
    return part


def check_mix(house, mix):
    """Raises InvalidMix for no mix."""
    if not fits_mix(house, mix):
        raise InvalidMix(mix)
