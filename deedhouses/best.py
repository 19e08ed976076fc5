"""One pay: gaps, turns of improving, the best worths."""

from deedhouses.chains import chain_worths, still_chain
from deedhouses.houses import check_house, check_weights, check_worths, mean_behind
from deedhouses.plans import check_choice, plain_plan
from deedhouses.ratios import NOUGHT, dot, is_below, least_index, minus, plus, times


def gaps_of(house, weights, worths):
    """For each stand the row of its deeds' gaps."""
    check_house(house)
    check_weights(house, weights)
    check_worths(house, worths)
    return gap_rows(house, weights, worths)


def gap_rows(house, weights, worths):
    """The gaps, where all arguments are known to be right."""
    share, _, stands = house
    rows = []
    for stand, worth in zip(stands, worths):
        rows.append(tuple([minus(worth, deed_worth(share, weights, worths, deed)) for deed in stand]))
    return tuple(rows)


def is_bettered(house, weights, worths):
    """Whether some deed betters the worths: its gap is below 0."""
    return any([is_below(gap, NOUGHT) for row in gap_rows(house, weights, worths) for gap in row])


def deed_worth(share, weights, worths, deed):
    """What a deed brings of the weighted pay if the worths are what comes behind it."""
    chances, gains = deed
    return plus(dot(weights, gains), times(share, mean_behind(chances, worths)))


def turn(house, weights, choice):
    """The choice behind one turn of improving; the same one if nothing changes."""
    check_house(house)
    check_weights(house, weights)
    check_choice(house, choice)
    return improved(house, weights, choice, choice_worths(house, weights, choice))


def improved(house, weights, choice, worths):
    """The choice behind one turn, the worths being its own weighted ones."""
    changed = []
    for deed, gaps in zip(choice, gap_rows(house, weights, worths)):
        least = least_index(gaps)
        changed.append(least if is_below(gaps[least], NOUGHT) else deed)
    return tuple(changed)


def choice_worths(house, weights, choice):
    """The weighted worths of a choice."""
    rows = chain_worths(still_chain(house, plain_plan(house, choice)))
    return tuple([dot(weights, row) for row in rows])


def best(house, weights):
    """The pair of the best worths and a choice that has them."""
    check_house(house)
    check_weights(house, weights)
    return best_from(house, weights)


def best_from(house, weights):
    """The best worths and a choice that has them, where both arguments are known to be right."""
    choice = (0,) * len(house[2])
    worths = choice_worths(house, weights, choice)
    better = improved(house, weights, choice, worths)
    while better != choice:
        choice = better
        worths = choice_worths(house, weights, choice)
        better = improved(house, weights, choice, worths)
    return worths, choice
