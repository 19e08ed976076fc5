"""Houses known in part: plans and changes of plans that are surely better."""

from deedhouses.best import choice_worths, deed_worth
from deedhouses.errors import InvalidNumber, TooMany
from deedhouses.houses import check_deed, check_stand, check_start, check_weights
from deedhouses.plans import check_choice, check_still
from deedhouses.ratios import NOUGHT, dot, is_below, minus
from deedhouses.stretches import check_vague, corner_rows, count_corners, filled_house
from deedhouses.worst import end_worths


def lead(vague, weights, one, two, start):
    """What plan ONE brings at least from the start, less what plan TWO brings at most."""
    check_vague(vague)
    check_weights(vague, weights)
    check_still(vague, one)
    check_still(vague, two)
    check_start(vague, start)
    least = dot(start, end_worths(vague, weights, one, False))
    return minus(least, dot(start, end_worths(vague, weights, two, True)))


def least_more(vague, weights, choice, stand, deed):
    """(MORE, HOUSE): the least more of the changed deed, and a house in which it is met."""
    check_change(vague, weights, choice, stand, deed)
    return least_corner(vague, weights, choice, stand, deed)


def is_surely_better(vague, weights, choice, stand, deed):
    """Whether the least more of the changed deed is from 0 on."""
    check_change(vague, weights, choice, stand, deed)
    return not is_below(least_corner(vague, weights, choice, stand, deed)[0], NOUGHT)


def least_corner(vague, weights, choice, stand, deed):
    """The least more over all corner houses, with its house, where all arguments are known to be right."""
    found = None
    for rows in corner_picks(vague, choice):
        worths = corner_worths(vague, weights, choice, rows)
        # Filled by the worths, D's row has the least sum; other deeds do not matter.
        house = with_rows(filled_house(vague, worths, False), choice, rows)
        more = minus(deed_worth(house[0], weights, worths, house[2][stand][deed]), worths[stand])
        if found is None or is_below(more, found[0]):
            found = more, house
    return found


def corner_picks(vague, choice):
    """For each corner house the CHANCES of the choice's deed, for each stand; stand 0's turn slowest."""
    picks = [()]
    for stand, deed in zip(vague[2], choice):
        told = [at for at, _, _ in stand[deed][0]]
        rows = [chances_of_row(told, row) for row in corner_rows(stand[deed][0])]
        picks = [pick + (row,) for pick in picks for row in rows]
    return picks


def chances_of_row(told, row):
    """The CHANCES of a row of chances for the told stands: those above 0 alone."""
    return tuple([(at, chance) for at, chance in zip(told, row) if chance != NOUGHT])


def corner_worths(vague, weights, choice, rows):
    """The worths of the choice in a corner house: the deeds that it does alone are looked at."""
    share, pays, stands = vague
    made = [((row, stand[deed][1]),) for stand, deed, row in zip(stands, choice, rows)]
    return choice_worths((share, pays, tuple(made)), weights, (0,) * len(made))


def with_rows(house, choice, rows):
    """The house in which the choice's deeds have these CHANCES."""
    share, pays, stands = house
    made = []
    for stand, deed, row in zip(stands, choice, rows):
        made.append(stand[:deed] + ((row, stand[deed][1]),) + stand[deed + 1:])
    return share, pays, tuple(made)


def check_change(vague, weights, choice, stand, deed):
    """The checks of a changed deed; TooMany for more than 256 corner houses."""
    check_vague(vague)
    check_weights(vague, weights)
    check_choice(vague, choice)
    check_stand(vague, stand)
    check_deed(vague, stand, deed)
    if deed == choice[stand]:
        raise InvalidNumber(deed)
    many = count_corners(vague, choice)
    if many > 256:
        raise TooMany(many)
