"""What a log misses: how far a way's counts may be off, and with what chance."""

from deedhouses.errors import InvalidNumber
from deedhouses.houses import check_house, check_number
from deedhouses.logs import counted
from deedhouses.players import check_player, counted_deeds
from deedhouses.ratios import NOUGHT, ONE, is_below, is_from_nought, minus, over, times, total
from deedhouses.runs import all_ways_of


def sketch_of(house):
    """The sketch with the house's gains and its CHANCES' stands."""
    check_house(house)
    return sketch_from(house)


def sketch_from(house):
    """The sketch of what is known to be a house."""
    share, pays, stands = house
    made = []
    for stand in stands:
        made.append(tuple([(tuple([(at, NOUGHT, ONE) for at, _ in chances]), gains) for chances, gains in stand]))
    return share, pays, tuple(made)


def mean_counts(house, start, player, many):
    """For each stand the row of the mean of how often each deed is done in so many steps."""
    check_player(house, start, player)
    check_number(many, 0, 60)
    return done_on_the_mean(house, start, player, many)


def done_on_the_mean(house, start, player, many):
    """The mean counts, where all arguments are known to be right."""
    return counted_deeds((ONE, house[1], house[2]), start, player, many)


def miss_bound(house, start, player, many, allowance):
    """A number that the chance to miss the house is at most."""
    check_player(house, start, player)
    check_number(many, 0, 60)
    check_above(allowance)
    return bound_of_miss(house, start, player, many, allowance)


def bound_of_miss(house, start, player, many, allowance):
    """The bound, where all arguments are known to be right."""
    parts = []
    for row, stand in zip(done_on_the_mean(house, start, player, many), house[2]):
        for number, (chances, _) in zip(row, stand):
            parts.append(times(number, total([times(chance, minus(ONE, chance)) for _, chance in chances])))
    return over(total(parts), times(allowance, allowance))


def miss_chance(house, start, player, many, allowance):
    """The chance that a way of so many steps misses the house."""
    check_player(house, start, player)
    check_number(many, 0, 20)
    check_above(allowance)
    return missed_of(house, allowance, all_ways_of(house, start, player, many))


def missed_of(house, allowance, pairs):
    """The chance of those ways that miss the house, of pairs of a way and its chance."""
    return total([chance for way, chance in pairs if is_missed(house, allowance, way)])


def is_missed(house, allowance, way):
    """Whether some count of the way is farther than the allowance from the mean of what the deed leads to."""
    for stand, counts in zip(house[2], counted(sketch_from(house), way)):
        for (chances, _), (done, came) in zip(stand, counts):
            for (_, chance), number in zip(chances, came):
                off = minus((number, 1), times(chance, (done, 1)))
                if is_below(allowance, (abs(off[0]), off[1])):
                    return True
    return False


def check_above(allowance):
    """Raises InvalidNumber for no fraction above 0."""
    if not is_from_nought(allowance) or allowance == NOUGHT:
        raise InvalidNumber(allowance)
