"""Steps left: the greatest worths of so many steps, and the plan by time that has them."""

from deedhouses.best import deed_worth
from deedhouses.houses import check_house, check_number, check_weights
from deedhouses.ratios import NOUGHT, greatest_index


def timed_worths(house, weights, many):
    """The rows of worths with 0, 1, .. up to so many steps left."""
    check_house(house)
    check_weights(house, weights)
    check_number(many, 0, 30)
    return tuple([worths for worths, _ in timed_stages(house, weights, many)])


def timed_choices(house, weights, many):
    """For 1 up to so many steps left the choice of each stand's first deed with the greatest."""
    check_house(house)
    check_weights(house, weights)
    check_number(many, 0, 30)
    return tuple([choice for _, choice in timed_stages(house, weights, many)[1:]])


def timed_stages(house, weights, many):
    """For 0 up to so many steps left the pair of the worths and the choice; no choice with 0 left."""
    stages = [((NOUGHT,) * len(house[2]), ())]
    for _ in range(many):
        stages.append(step_ahead(house, weights, stages[-1][0]))
    return stages


def step_ahead(house, weights, worths):
    """The worths with one step more left than these, and the choice that has them."""
    ahead, choice = [], []
    for stand in house[2]:
        brought = [deed_worth(house[0], weights, worths, deed) for deed in stand]
        first = greatest_index(brought)
        ahead.append(brought[first])
        choice.append(first)
    return tuple(ahead), tuple(choice)
