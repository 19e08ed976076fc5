"""How far a number of a house may move before a best choice is best no more."""

from deedhouses.best import choice_worths, gap_rows, is_bettered
from deedhouses.chains import chain_worths, still_chain
from deedhouses.errors import InvalidNumber, NotBest
from deedhouses.houses import check_deed, check_house, check_stand, check_weights, weighed, with_gain
from deedhouses.plans import check_choice, plain_plan
from deedhouses.ratios import NOUGHT, ONE, column, is_below, is_whole, minus, opposites, over, plus, times


def gain_room(house, weights, choice, stand, deed):
    """(LOW, HIGH) of the numbers that may come to the deed's gain; None for no end."""
    _, gaps = best_gaps(house, weights, choice)
    check_stand(house, stand)
    check_deed(house, stand, deed)
    if deed != choice[stand]:
        return None, gaps[stand][deed]
    slopes = gap_rows(house, (NOUGHT,) * house[1], counts_behind(house, choice, stand))
    return room(other_pairs(choice, gaps, slopes), None, None)


def chance_room(house, weights, choice, stand, deed, source, target):
    """(LOW, HIGH) of the numbers that may go from SOURCE's chance to TARGET's chance in the deed's row."""
    worths, gaps = best_gaps(house, weights, choice)
    check_stand(house, stand)
    check_deed(house, stand, deed)
    row = dict(house[2][stand][deed][0])
    check_told(row, source)
    check_told(row, target)
    if target == source:
        raise InvalidNumber(target)
    low, high = (-row[target][0], row[target][1]), row[source]
    moved = times(house[0], minus(worths[target], worths[source]))
    if deed != choice[stand]:
        return room([(gaps[stand][deed], opposites((moved,))[0])], low, high)
    counts = counts_behind(house, choice, stand)
    slopes = gap_rows(house, (NOUGHT,) * house[1], counts)
    less = times(house[0], minus(counts[target], counts[source]))
    lines = []
    for gap, slope in other_pairs(choice, gaps, slopes):
        # N times the new gap: N is 1 less Y times LESS, and above 0 as far as Y may go.
        lines.append((gap, minus(times(moved, slope), times(gap, less))))
    return room(lines, low, high)


def best_gaps(house, weights, choice):
    """The choice's worths and the gaps beside them; NotBest if a deed betters them."""
    check_house(house)
    check_weights(house, weights)
    check_choice(house, choice)
    worths = choice_worths(house, weights, choice)
    if is_bettered(house, weights, worths):
        raise NotBest()
    return worths, gap_rows(house, weights, worths)


def raised(house, weights, stand, deed, number):
    """The house of the one pay that the weights make, in which the number comes to the deed's gain."""
    narrow = weighed(house, weights)
    gain = narrow[2][stand][deed][1][0]
    return with_gain(narrow, stand, deed, 0, plus(gain, number))


def counts_behind(house, choice, stand):
    """The worths of the choice with gains 1 for its deed at the stand, and 0 for all others."""
    share, moves, _ = still_chain(house, plain_plan(house, choice))
    gains = [[ONE if at == stand else NOUGHT] for at in range(len(moves))]
    return column(chain_worths((share, moves, gains)), 0)


def other_pairs(choice, gaps, slopes):
    """The pairs of gap and slope of all deeds that the choice does not do."""
    pairs = []
    for chosen, row, sides in zip(choice, gaps, slopes):
        pairs.extend([pair for deed, pair in enumerate(zip(row, sides)) if deed != chosen])
    return pairs


def room(lines, low, high):
    """The ends, from LOW to HIGH, between which each line GAP and SLOPE times the number is from 0 on."""
    for gap, slope in lines:
        if slope != NOUGHT:
            end = over((-gap[0], gap[1]), slope)
            if slope[0] > 0 and (low is None or is_below(low, end)):
                low = end
            elif slope[0] < 0 and (high is None or is_below(end, high)):
                high = end
    return low, high


def check_told(row, stand):
    """Raises InvalidNumber for anything but a stand that is told in the CHANCES."""
    if not is_whole(stand) or stand not in row:
        raise InvalidNumber(stand)
