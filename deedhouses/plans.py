"""Still plans, choices and minded plans."""

from deedhouses.errors import InvalidChoice, InvalidMinded, InvalidStill
from deedhouses.houses import check_house
from deedhouses.ratios import NOUGHT, ONE, are_odds, is_tuple, is_within


def is_still(house, value):
    """Whether any value is a still plan of the house."""
    check_house(house)
    return fits_still(house, value)


def fits_still(house, value):
    """Whether any value is a still plan of what is known to be a house."""
    stands = house[2]
    if not is_tuple(value, len(stands)):
        return False
    return all([are_odds(odds, len(stand)) for odds, stand in zip(value, stands)])


def is_choice(house, value):
    """Whether any value is a choice of the house."""
    check_house(house)
    return fits_choice(house, value)


def fits_choice(house, value):
    """Whether any value is a choice of what is known to be a house."""
    stands = house[2]
    if not is_tuple(value, len(stands)):
        return False
    return all([is_within(deed, 0, len(stand) - 1) for deed, stand in zip(value, stands)])


def is_minded(house, value):
    """Whether any value is a minded plan of the house."""
    check_house(house)
    return fits_minded(house, value)


def fits_minded(house, value):
    """Whether any value is a minded plan of what is known to be a house."""
    if not is_tuple(value, 3):
        return False
    minds, rows, turns = value
    stands = house[2]
    if not is_within(minds, 1, 4) or not is_tuple(rows, len(stands)) or not is_tuple(turns, len(stands)):
        return False
    for stand, odds, nexts in zip(stands, rows, turns):
        if not are_minds_odds(odds, minds, len(stand)) or not are_turns(nexts, minds, len(stand)):
            return False
    return True


def are_minds_odds(value, minds, deeds):
    """Whether any value is a tuple of odds of so many deeds, for each mind."""
    return is_tuple(value, minds) and all([are_odds(odds, deeds) for odds in value])


def are_turns(value, minds, deeds):
    """Whether any value is a tuple, for so many deeds, of a tuple of a mind for each mind."""
    if not is_tuple(value, deeds):
        return False
    for row in value:
        if not is_tuple(row, minds) or not all([is_within(mind, 0, minds - 1) for mind in row]):
            return False
    return True


def still_of(house, choice):
    """The still plan that the choice tells."""
    check_house(house)
    check_choice(house, choice)
    return plain_plan(house, choice)


def plain_plan(house, choice):
    """The still plan of what is known to be a choice."""
    return tuple([plain_odds(deed, len(stand)) for deed, stand in zip(choice, house[2])])


def plain_odds(deed, deeds):
    """The odds that do one of so many deeds alone."""
    return tuple([ONE if at == deed else NOUGHT for at in range(deeds)])


def choice_of(house, still):
    """The choice that tells the still plan; None for one that is not plain."""
    check_house(house)
    check_still(house, still)
    if not all([ONE in odds for odds in still]):
        return None
    return tuple([odds.index(ONE) for odds in still])


def doubled(house, still):
    """How many chances above 0 the still plan has, less how many stands."""
    check_house(house)
    check_still(house, still)
    return sum([len(odds) - odds.count(NOUGHT) for odds in still]) - len(still)


def minded_of(house, still):
    """The minded plan of one mind that does the same as the still plan."""
    check_house(house)
    check_still(house, still)
    turns = [((0,),) * len(stand) for stand in house[2]]
    return 1, tuple([(odds,) for odds in still]), tuple(turns)


def check_still(house, still):
    """Raises InvalidStill for no still plan of the house."""
    stands = house[2]
    if not is_tuple(still, len(stands)):
        raise InvalidStill(None)
    for at, odds in enumerate(still):
        if not are_odds(odds, len(stands[at])):
            raise InvalidStill(at)


def check_choice(house, choice):
    """Raises InvalidChoice for no choice of the house."""
    stands = house[2]
    if not is_tuple(choice, len(stands)):
        raise InvalidChoice(None)
    for at, deed in enumerate(choice):
        if not is_within(deed, 0, len(stands[at]) - 1):
            raise InvalidChoice(at)


def check_minded(house, minded):
    """Raises InvalidMinded for no minded plan of the house."""
    if not fits_minded(house, minded):
        raise InvalidMinded(minded)
