"""Shares: how often each deed is done, each time counted by the share."""

from deedhouses.chains import counts_in, minded_chain, minded_start, still_chain
from deedhouses.errors import InvalidShares
from deedhouses.houses import check_house, check_start
from deedhouses.plans import check_minded, check_still, plain_odds
from deedhouses.ratios import NOUGHT, column, dot, is_from_nought, is_tuple, over, plus, times, total


def are_shares(house, start, value):
    """Whether any value is shares beside the start."""
    check_house(house)
    check_start(house, start)
    return fits_shares(house, start, value)


def fits_shares(house, start, value):
    """Whether any value is shares beside what is known to be a start."""
    stands = house[2]
    if not is_tuple(value, len(stands)):
        return False
    for row, stand in zip(value, stands):
        if not is_tuple(row, len(stand)) or not all([is_from_nought(each) for each in row]):
            return False
    return [total(row) for row in value] == come_to(house, start, value)


def come_to(house, start, shares):
    """For each stand what the balance wants: the start's chance and the share of what leads there."""
    share, _, stands = house
    sums = [NOUGHT] * len(stands)
    for row, stand in zip(shares, stands):
        for number, (chances, _) in zip(row, stand):
            for at, chance in chances:
                sums[at] = plus(sums[at], times(number, chance))
    return [plus(chance, times(share, each)) for chance, each in zip(start, sums)]


def shares_of(house, start, still):
    """The still plan's shares."""
    check_house(house)
    check_start(house, start)
    check_still(house, still)
    return shares_from(house, start, still)


def shares_from(house, start, still):
    """The still plan's shares, where all arguments are known to be right."""
    return still_counts(house, start, still, None)


def still_counts(house, start, still, many):
    """The part of the still plan's shares that so many steps make; all of them for None."""
    counts = counts_in(still_chain(house, still), start, many)
    return tuple([tuple([times(count, odd) for odd in odds]) for count, odds in zip(counts, still)])


def minded_shares(house, start, minded):
    """The minded plan's shares: those of all its minds together."""
    check_house(house)
    check_start(house, start)
    check_minded(house, minded)
    return minded_counts(house, start, minded, None)


def minded_counts(house, start, minded, many):
    """The part of the minded plan's shares that so many steps make; all of them for None."""
    minds, rows, _ = minded
    counts = counts_in(minded_chain(house, minded), minded_start(start, minds), many)
    shares = []
    for at, many_odds in enumerate(rows):
        own = counts[at * minds:at * minds + minds]
        shares.append(tuple([dot(own, column(many_odds, deed)) for deed in range(len(many_odds[0]))]))
    return tuple(shares)


def pays_of_shares(house, start, shares):
    """The sum of the shares times the gains."""
    check_house(house)
    check_start(house, start)
    check_shares(house, start, shares)
    return pays_by(house, shares)


def pays_by(house, shares):
    """The sum of any rows, a number for each deed, times the gains."""
    numbers = [number for row in shares for number in row]
    gains = [deed[1] for stand in house[2] for deed in stand]
    return tuple([dot(numbers, column(gains, pay)) for pay in range(house[1])])


def still_of_shares(house, start, shares):
    """The still plan with just these shares; where a row's sum is 0, it does deed 0 alone."""
    check_house(house)
    check_start(house, start)
    check_shares(house, start, shares)
    return still_from(shares)


def still_from(shares):
    """The still plan with just these rows as its shares."""
    plan = []
    for row in shares:
        whole = total(row)
        if whole == NOUGHT:
            plan.append(plain_odds(0, len(row)))
        else:
            plan.append(tuple([over(number, whole) for number in row]))
    return tuple(plan)


def check_shares(house, start, shares):
    """Raises InvalidShares for no shares beside the start."""
    if not fits_shares(house, start, shares):
        raise InvalidShares(shares)
