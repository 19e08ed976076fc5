"""Houses known in part: the worst and the best worths of plans, safest plans, bounds that are surely kept."""

from deedhouses.bounds import bounded_pays, check_bounds
from deedhouses.chains import chain_worths, still_chain
from deedhouses.houses import check_start, check_weights, mean_behind, weighed
from deedhouses.plans import check_still, plain_odds, plain_plan
from deedhouses.ratios import NOUGHT, column, dot, greatest_index, is_below, plus, times
from deedhouses.stretches import check_vague, filled_chances, filled_house


def worst_worths(vague, weights, still):
    """For each stand the least worth that the plan has in a house that fits."""
    check_weighted_plan(vague, weights, still)
    return end_worths(vague, weights, still, False)


def best_worths(vague, weights, still):
    """For each stand the greatest worth that the plan has in a house that fits."""
    check_weighted_plan(vague, weights, still)
    return end_worths(vague, weights, still, True)


def worst_house(vague, weights, still):
    """The house with all deeds filled by the worst worths: the plan has them there."""
    check_weighted_plan(vague, weights, still)
    return filled_house(vague, end_worths(vague, weights, still, False), False)


def best_house(vague, weights, still):
    """The house with all deeds filled the other way by the best worths: the plan has them there."""
    check_weighted_plan(vague, weights, still)
    return filled_house(vague, end_worths(vague, weights, still, True), True)


def end_worths(vague, weights, still, is_greatest):
    """The worst worths of the plan, or the best ones, where all arguments are known to be right."""
    narrow = weighed(vague, weights)
    house = filled_house(narrow, (NOUGHT,) * len(still), is_greatest)
    worths = own_worths(house, still)
    other = refilled(narrow, house, still, worths, is_greatest)
    while other != house:
        house = other
        worths = own_worths(house, still)
        other = refilled(narrow, house, still, worths, is_greatest)
    return worths


def own_worths(house, still):
    """The worths of the plan in a house of one pay."""
    return tuple(column(chain_worths(still_chain(house, still)), 0))


def refilled(vague, house, still, worths, is_greatest):
    """The house in which each deed the plan does, that filling by the worths moves on, is filled."""
    share, pays, stands = house
    made = []
    for told, stand, odds in zip(vague[2], stands, still):
        deeds = []
        for (stretches, gains), (chances, _), odd in zip(told, stand, odds):
            full = filled_chances(stretches, worths, is_greatest)
            is_moved = odd != NOUGHT and is_further(full, chances, worths, is_greatest)
            deeds.append((full if is_moved else chances, gains))
        made.append(tuple(deeds))
    return share, pays, tuple(made)


def is_further(full, chances, worths, is_greatest):
    """Whether filled CHANCES have another sum with the worths, on the side that is asked for."""
    one, two = mean_behind(full, worths), mean_behind(chances, worths)
    return is_below(two, one) if is_greatest else is_below(one, two)


def safest(vague, weights):
    """(CHOICE, WORTHS, HOUSE): a safest plan, the safe worths, the house filled by them."""
    check_vague(vague)
    check_weights(vague, weights)
    return safest_from(vague, weights)


def safest_from(vague, weights):
    """The safest plan, its worths and their house, where both arguments are known to be right."""
    choice = (0,) * len(vague[2])
    worths = end_worths(vague, weights, plain_plan(vague, choice), False)
    better = safer(vague, weights, choice, worths)
    while better != choice:
        choice = better
        worths = end_worths(vague, weights, plain_plan(vague, choice), False)
        better = safer(vague, weights, choice, worths)
    return choice, worths, filled_house(vague, worths, False)


def safer(vague, weights, choice, worths):
    """The choice with the first greatest deed, by its own worst worths, where that is above what stands."""
    changed = []
    for stand, deed, worth in zip(vague[2], choice, worths):
        sums = [least_brought(vague[0], weights, worths, each) for each in stand]
        first = greatest_index(sums)
        changed.append(first if is_below(worth, sums[first]) else deed)
    return tuple(changed)


def least_brought(share, weights, worths, deed):
    """The deed's gain and the share of the least sum of its chances times the worths."""
    stretches, gains = deed
    behind = mean_behind(filled_chances(stretches, worths, False), worths)
    return plus(dot(weights, gains), times(share, behind))


def surely_keeps(vague, start, bounds, still):
    """Whether the plan keeps the bounds from the start in every house that fits."""
    check_bounded_plan(vague, start, bounds, still)
    return first_broken(vague, start, bounds, still) is None


def not_kept(vague, start, bounds, still):
    """(PAY, HOUSE): a pay with a bound, and a house that fits in which the plan's pay is below it; None."""
    check_bounded_plan(vague, start, bounds, still)
    found = first_broken(vague, start, bounds, still)
    if found is None:
        return None
    pay, worths = found
    return pay, filled_house(vague, worths, False)


def first_broken(vague, start, bounds, still):
    """The first pay whose bound is not surely kept, with the worst worths by this pay alone; None."""
    for pay in bounded_pays(bounds):
        worths = end_worths(vague, plain_odds(pay, vague[1]), still, False)
        if is_below(dot(start, worths), bounds[pay]):
            return pay, worths
    return None


def check_weighted_plan(vague, weights, still):
    """The checks of a vague house, of weights and of a still plan."""
    check_vague(vague)
    check_weights(vague, weights)
    check_still(vague, still)


def check_bounded_plan(vague, start, bounds, still):
    """The checks of a vague house, a start, bounds and a still plan."""
    check_vague(vague)
    check_start(vague, start)
    check_bounds(vague, bounds)
    check_still(vague, still)
