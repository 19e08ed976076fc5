"""Several pays with bounds: plans that keep them, and reasons that none does."""

from deedhouses.balances import deed_columns, deed_rows
from deedhouses.best import is_bettered
from deedhouses.errors import InvalidBounds, TooMany
from deedhouses.houses import check_house, check_pay, check_start
from deedhouses.plans import check_still, plain_plan
from deedhouses.ratios import NOUGHT, ONE, dot, is_below, is_fraction, is_from_nought, is_row, is_tuple, opposites, plus
from deedhouses.shares import still_from
from deedhouses.tableaus import greatest_corner
from deedhouses.worths import pays_from


def does_keep(house, start, bounds, still):
    """Whether the still plan keeps the bounds from the start."""
    check_house(house)
    check_start(house, start)
    check_bounds(house, bounds)
    check_still(house, still)
    return are_kept(bounds, pays_from(house, start, still))


def are_kept(bounds, pays):
    """Whether each of the pays with a bound is at least the bound."""
    return not any([bound is not None and is_below(pay, bound) for pay, bound in zip(pays, bounds)])


def is_reason(house, start, bounds, value):
    """Whether any value is a reason against the bounds."""
    check_house(house)
    check_start(house, start)
    check_bounds(house, bounds)
    return fits_reason(house, start, bounds, value)


def fits_reason(house, start, bounds, value):
    """Whether any value is a reason, where the other arguments are known to be right."""
    if not is_tuple(value, 2) or not is_row(value[0], house[1]) or not is_row(value[1], len(house[2])):
        return False
    weights, worths = value
    if not all([is_weight(weight, bound) for weight, bound in zip(weights, bounds)]):
        return False
    return not is_bettered(house, weights, worths) and is_below(dot(start, worths), dot(weights, numbers_of(bounds)))


def is_weight(weight, bound):
    """Whether a fraction may be the weight of a reason beside this bound."""
    return is_from_nought(weight) and (bound is not None or weight == NOUGHT)


def numbers_of(bounds):
    """The bounds, with 0 where there is none."""
    return [NOUGHT if bound is None else bound for bound in bounds]


def keep(house, start, bounds):
    """("kept", STILL), a still plan that keeps the bounds, or ("not kept", WEIGHTS, WORTHS), a reason."""
    check_house(house)
    check_start(house, start)
    check_bounds(house, bounds)
    return kept_or_not(house, start, bounds)


def kept_or_not(house, start, bounds):
    """What keep tells, where all arguments are known to be right."""
    found = greatest_kept(house, start, bounds, None)
    if found[0] == "none":
        return refused(house, bounds, found[1])
    return "kept", still_from(deed_rows(house, found[1]))


def most(house, start, bounds, pay):
    """("most", NUMBER, STILL, WEIGHTS, WORTHS) for the greatest of one pay under the bounds.

    ("not kept", WEIGHTS, WORTHS), with a reason, where no plan keeps them.
    """
    check_house(house)
    check_start(house, start)
    check_bounds(house, bounds)
    check_pay(house, pay)
    found = greatest_kept(house, start, bounds, pay)
    if found[0] == "none":
        return refused(house, bounds, found[1])
    _, numbers, prices = found
    gains = [deed[1][pay] for stand in house[2] for deed in stand]
    stands = len(house[2])
    weights = list(weights_by(bounds, opposites(prices[stands:])))
    weights[pay] = plus(weights[pay], ONE)
    still = still_from(deed_rows(house, numbers))
    return "most", dot(gains, numbers[:len(gains)]), still, tuple(weights), tuple(prices[:stands])


def greatest_kept(house, start, bounds, pay):
    """The corner of shares that keep the bounds with the greatest of the pay; any corner for None."""
    bounded = bounded_pays(bounds)
    columns = deed_columns(house, bounded)
    gains = [NOUGHT if pay is None else deed[1][pay] for stand in house[2] for deed in stand]
    # What a pay brings above its bound is a number from 0 on of its own.
    for each in bounded:
        columns.append([NOUGHT] * len(start) + [(-1, 1) if other == each else NOUGHT for other in bounded])
        gains.append(NOUGHT)
    rights = list(start) + [bounds[each] for each in bounded]
    return greatest_corner(columns, rights, gains)


def bounded_pays(bounds):
    """The indexes of the pays with a bound."""
    return [pay for pay, bound in enumerate(bounds) if bound is not None]


def weights_by(bounds, numbers):
    """A weight for each pay: the numbers, in order, for those with a bound, 0 for the others."""
    weights = [NOUGHT] * len(bounds)
    for pay, number in zip(bounded_pays(bounds), numbers):
        weights[pay] = number
    return tuple(weights)


def refused(house, bounds, prices):
    """The answer that no plan keeps the bounds: a reason is made of the simplex's prices."""
    stands = len(house[2])
    return "not kept", weights_by(bounds, prices[stands:]), opposites(prices[:stands])


def plain_keep(house, start, bounds):
    """A choice that keeps the bounds; None."""
    check_house(house)
    check_start(house, start)
    check_bounds(house, bounds)
    many = count_choices(house)
    if many > 256:
        raise TooMany(many)
    for code in range(many):
        choice = choice_at(house, code)
        if are_kept(bounds, pays_from(house, start, plain_plan(house, choice))):
            return choice
    return None


def count_choices(house):
    """How many choices there are."""
    many = 1
    for stand in house[2]:
        many = many * len(stand)
    return many


def choice_at(house, code):
    """The choice with this number, where all are numbered from 0 on."""
    choice = []
    for stand in house[2]:
        choice.append(code % len(stand))
        code = code // len(stand)
    return tuple(choice)


def are_bounds(house, value):
    """Whether any value is bounds of what is known to be a house."""
    return is_tuple(value, house[1]) and all([is_bound(each) for each in value])


def is_bound(value):
    """Whether any value is a bound, or None."""
    return value is None or is_fraction(value)


def check_bounds(house, bounds):
    """Raises InvalidBounds for no row of a fraction or None for each pay."""
    if not is_tuple(bounds, house[1]):
        raise InvalidBounds(None)
    for at, bound in enumerate(bounds):
        if not is_bound(bound):
            raise InvalidBounds(at)
