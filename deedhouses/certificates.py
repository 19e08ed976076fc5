"""Claims on houses with papers for them: one pay, several ones with bounds, two pays, goals."""

from deedhouses.best import best
from deedhouses.bounds import keep, most
from deedhouses.errors import InvalidNumber
from deedhouses.goals import greatest_coming, least_coming, ranks_of
from deedhouses.houses import check_stand
from deedhouses.polygons import place
from deedhouses.ratios import is_below, is_fraction


def certify_best(house, weights):
    """What the best worths are."""
    worths, choice = best(house, weights)
    return ("best", house, weights, worths), choice


def certify_keep(house, start, bounds):
    """Whether some plan keeps the bounds."""
    found = keep(house, start, bounds)
    if found[0] == "kept":
        return ("kept", house, start, bounds), found[1]
    return ("not kept", house, start, bounds), found[1:]


def certify_most(house, start, bounds, pay):
    """What the greatest of the pay is, or that no plan keeps the bounds."""
    found = most(house, start, bounds, pay)
    if found[0] == "most":
        return ("most", house, start, bounds, pay, found[1]), found[2:]
    return ("not kept", house, start, bounds), found[1:]


def certify_place(house, start, pair):
    """Whether some plan has just this pair of pays."""
    found = place(house, start, pair)
    if found[0] == "in":
        return ("in", house, start, pair), found[1]
    return ("out", house, start, pair), found[1:]


def certify_coming(house, goals, stand, number):
    """Whether some plan comes from the stand with at least this chance."""
    chances, choice = greatest_coming(house, goals)
    check_aim(house, stand, number)
    if is_below(chances[stand], number):
        return ("comes not", house, goals, stand, number), chances
    return ("comes", house, goals, stand, number), choice


def certify_always(house, goals, stand, number):
    """Whether every plan comes from the stand with at least this chance."""
    chances, choice = least_coming(house, goals)
    check_aim(house, stand, number)
    if is_below(chances[stand], number):
        return ("comes less", house, goals, stand, number), choice
    return ("always comes", house, goals, stand, number), (chances, ranks_of(house, goals))


def check_aim(house, stand, number):
    """Raises InvalidNumber for no stand, then for no fraction."""
    check_stand(house, stand)
    if not is_fraction(number):
        raise InvalidNumber(number)
