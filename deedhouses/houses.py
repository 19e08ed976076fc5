"""Houses, starts, and the checks of arguments that hang on the house alone."""

from deedhouses.errors import InvalidHouse, InvalidNumber, InvalidStart, InvalidWeights, InvalidWorths
from deedhouses.ratios import ONE, are_odds, dot, is_fraction, is_from_nought, is_row, is_tuple, is_whole, is_within
from deedhouses.ratios import total


def is_house(value):
    """Whether any value is a house."""
    return is_frame(value) and all([are_chances(ways, len(value[2])) for ways in all_ways(value)])


def is_frame(value):
    """Whether any value is a house but for what its deeds tell of the ways on."""
    if not is_tuple(value, 3):
        return False
    share, pays, stands = value
    if not is_from_nought(share) or share[0] >= share[1] or not is_within(pays, 1, 4):
        return False
    if not isinstance(stands, tuple) or not is_within(len(stands), 1, 8):
        return False
    return all([is_stand_frame(stand, pays) for stand in stands])


def is_stand_frame(value, pays):
    """Whether any value is a stand of so many pays but for what its deeds tell of the ways on."""
    if not isinstance(value, tuple) or not is_within(len(value), 1, 4):
        return False
    return all([is_tuple(deed, 2) and is_row(deed[1], pays) for deed in value])


def all_ways(frame):
    """What all deeds, in order, tell of the ways on: CHANCES or stretches."""
    return [ways for stand in frame[2] for ways, _ in stand]


def are_chances(value, stands):
    """Whether any value is the CHANCES of a deed in a house of so many stands."""
    if not isinstance(value, tuple):
        return False
    least = 0
    for each in value:
        if not is_tuple(each, 2) or not is_within(each[0], least, stands - 1):
            return False
        if not is_from_nought(each[1]) or each[1][0] == 0:
            return False
        least = each[0] + 1
    return total([chance for _, chance in value]) == ONE


def is_step(frame, value):
    """Whether any value is a triple of a stand, a deed of it, and a stand that the deed tells ways on to."""
    stands = frame[2]
    if not is_tuple(value, 3) or not is_within(value[0], 0, len(stands) - 1):
        return False
    stand = stands[value[0]]
    if not is_within(value[1], 0, len(stand) - 1):
        return False
    return is_whole(value[2]) and value[2] in [each[0] for each in stand[value[1]][0]]


def is_start(house, value):
    """Whether any value is a start of the house."""
    check_house(house)
    return are_odds(value, len(house[2]))


def weighted(house, weights):
    """The house with the one pay that the weights make."""
    check_house(house)
    check_weights(house, weights)
    return weighed(house, weights)


def weighed(frame, weights):
    """The house, or vague house, with the one pay, where both arguments are known to be right."""
    share, _, stands = frame
    made = []
    for stand in stands:
        made.append(tuple([(ways, (dot(weights, gains),)) for ways, gains in stand]))
    return share, 1, tuple(made)


def with_gain(house, stand, deed, pay, number):
    """The house in which the number stands in the place of a deed's gain."""
    share, pays, stands = house
    deeds = stands[stand]
    chances, gains = deeds[deed]
    changed = chances, gains[:pay] + (number,) + gains[pay + 1:]
    own = deeds[:deed] + (changed,) + deeds[deed + 1:]
    return share, pays, stands[:stand] + (own,) + stands[stand + 1:]


def mean_behind(chances, numbers):
    """The mean, by CHANCES, of the stands' numbers."""
    return dot([chance for _, chance in chances], [numbers[to] for to, _ in chances])


def check_house(house):
    """Raises InvalidHouse for no house."""
    if not is_house(house):
        raise InvalidHouse(house)


def check_start(house, start):
    """Raises InvalidStart for no start of the house."""
    if not is_tuple(start, len(house[2])):
        raise InvalidStart(None)
    for at, chance in enumerate(start):
        if not is_from_nought(chance):
            raise InvalidStart(at)
    if total(start) != ONE:
        raise InvalidStart(None)


def check_weights(house, weights):
    """Raises InvalidWeights for no row of a fraction for each pay."""
    if not is_tuple(weights, house[1]):
        raise InvalidWeights(None)
    for at, weight in enumerate(weights):
        if not is_fraction(weight):
            raise InvalidWeights(at)


def check_worths(house, worths):
    """Raises InvalidWorths for no row of a fraction for each stand."""
    if not is_tuple(worths, len(house[2])):
        raise InvalidWorths(None)
    for at, worth in enumerate(worths):
        if not is_fraction(worth):
            raise InvalidWorths(at)


def check_number(value, least, greatest):
    """Raises InvalidNumber for no whole number from the least up to the greatest one."""
    if not is_within(value, least, greatest):
        raise InvalidNumber(value)


def check_pay(house, pay):
    """Raises InvalidNumber for no index of a pay."""
    check_number(pay, 0, house[1] - 1)


def check_stand(house, stand):
    """Raises InvalidNumber for no index of a stand."""
    check_number(stand, 0, len(house[2]) - 1)


def check_deed(house, stand, deed):
    """Raises InvalidNumber for no index of a deed of the stand."""
    check_number(deed, 0, len(house[2][stand]) - 1)
