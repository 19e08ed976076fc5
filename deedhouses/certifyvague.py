"""Claims on houses known in part, and on how far a gain may move, with papers for them."""

from deedhouses.best import choice_worths, gap_rows
from deedhouses.better import check_change, corner_picks, corner_worths, least_corner
from deedhouses.bounds import bounded_pays
from deedhouses.errors import InvalidNumber
from deedhouses.houses import check_start, check_weights
from deedhouses.moves import gain_room, raised
from deedhouses.plans import plain_odds
from deedhouses.ratios import NOUGHT, ONE, dot, is_below, is_fraction
from deedhouses.stretches import check_vague, filled_house
from deedhouses.worst import check_bounded_plan, end_worths, first_broken, safest_from


def certify_safe(vague, weights, start, number):
    """Whether some plan brings at least the number in every house that fits."""
    check_vague(vague)
    check_weights(vague, weights)
    check_start(vague, start)
    check_fraction(number)
    choice, worths, house = safest_from(vague, weights)
    if is_below(dot(start, worths), number):
        return ("unsafe", vague, weights, start, number), (house, worths)
    return ("safe", vague, weights, start, number), (choice, worths)


def certify_surely(vague, start, bounds, still):
    """Whether the plan keeps the bounds in every house that fits."""
    check_bounded_plan(vague, start, bounds, still)
    found = first_broken(vague, start, bounds, still)
    if found is not None:
        pay, worths = found
        return ("keeps not surely", vague, start, bounds, still), (pay, filled_house(vague, worths, False), worths)
    rows = [end_worths(vague, plain_odds(pay, vague[1]), still, False) for pay in bounded_pays(bounds)]
    return ("surely keeps", vague, start, bounds, still), tuple(rows)


def certify_change(vague, weights, choice, stand, deed):
    """Whether the changed deed is nowhere worse in every house that fits."""
    check_change(vague, weights, choice, stand, deed)
    more, house = least_corner(vague, weights, choice, stand, deed)
    if is_below(more, NOUGHT):
        return ("once worse", vague, weights, choice, stand, deed), (house, choice_worths(house, weights, choice))
    rows = [corner_worths(vague, weights, choice, pick) for pick in corner_picks(vague, choice)]
    return ("surely better", vague, weights, choice, stand, deed), tuple(rows)


def certify_move(house, weights, choice, stand, deed, number):
    """Whether the choice, a best plan, stays one when the number comes to the deed's gain."""
    gain_room(house, weights, choice, stand, deed)
    check_fraction(number)
    changed = raised(house, weights, stand, deed, number)
    worths = choice_worths(changed, (ONE,), choice)
    for at, gaps in enumerate(gap_rows(changed, (ONE,), worths)):
        for other, gap in enumerate(gaps):
            if is_below(gap, NOUGHT):
                return ("stays not", house, weights, choice, stand, deed, number), (worths, at, other)
    return ("stays", house, weights, choice, stand, deed, number), worths


def check_fraction(number):
    """Raises InvalidNumber for no fraction."""
    if not is_fraction(number):
        raise InvalidNumber(number)
