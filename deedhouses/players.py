"""Players: plans of any kind that is told, those that remember all that has been among them."""

from deedhouses.errors import InvalidPlayer
from deedhouses.houses import check_house, check_number, check_start, is_step
from deedhouses.minds import first_states, ways_on
from deedhouses.mixes import is_ascending
from deedhouses.plans import fits_minded, fits_still
from deedhouses.ratios import NOUGHT, are_odds, is_tuple, is_within, plus, times
from deedhouses.shares import minded_counts, pays_by, still_counts


def is_told(house, value):
    """Whether any value is a told plan of the house."""
    check_house(house)
    return fits_told(house, value)


def fits_told(house, value):
    """Whether any value is a told plan of what is known to be a house."""
    if not is_tuple(value, 2) or not isinstance(value[0], tuple) or len(value[0]) > 32:
        return False
    if not fits_still(house, value[1]) or not all([is_told_row(house, each) for each in value[0]]):
        return False
    return is_ascending([memory for memory, _ in value[0]])


def is_told_row(house, value):
    """Whether any value is a pair of a memory and odds of its last stand."""
    if not is_tuple(value, 2) or not is_memory(house, value[0]):
        return False
    return are_odds(value[1], len(house[2][value[0][-1]]))


def is_memory(house, value):
    """Whether any value is a memory: a stand, a deed, a stand, and so on, and a stand."""
    if not isinstance(value, tuple) or not is_within(len(value), 1, 9) or len(value) % 2 == 0:
        return False
    if not is_within(value[0], 0, len(house[2]) - 1):
        return False
    return all([is_step(house, value[at:at + 3]) for at in range(0, len(value) - 2, 2)])


def is_player(house, value):
    """Whether any value is a player of the house."""
    check_house(house)
    return fits_player(house, value)


def fits_player(house, value):
    """Whether any value is a player of what is known to be a house."""
    if not is_tuple(value, 2):
        return False
    kind, plan = value
    if kind == "still":
        return fits_still(house, plan)
    if kind == "minded":
        return fits_minded(house, plan)
    return kind == "told" and fits_told(house, plan)


def player_pays(house, start, player):
    """The player's pays from the start."""
    check_player(house, start, player)
    return pays_by(house, counted_deeds(house, start, player, None))


def player_shares(house, start, player):
    """The player's shares beside the start."""
    check_player(house, start, player)
    return counted_deeds(house, start, player, None)


def player_steps(house, start, player, many):
    """The player's pays of the first so many steps alone."""
    check_player(house, start, player)
    check_number(many, 0, 60)
    return pays_by(house, counted_deeds(house, start, player, many))


def counted_deeds(house, start, player, many):
    """The part of the player's shares that so many steps make; all of them for None."""
    kind, plan = player
    if kind == "still":
        return still_counts(house, start, plan, many)
    if kind == "minded":
        return minded_counts(house, start, plan, many)
    # Behind five steps no memory is as long: from there on the still plan is followed.
    first = 5 if many is None else min(many, 5)
    sums, row = beginning(house, start, player, first)
    rest = still_counts(house, row, plan[1], None if many is None else many - first)
    return tuple([added_row(one, two) for one, two in zip(sums, rest)])


def added_row(one, two):
    """The sums of two rows, place by place."""
    return tuple([plus(each, other) for each, other in zip(one, two)])


def beginning(house, start, player, many):
    """What so many steps make of the player's shares, and the row of the stands' numbers behind them."""
    share, _, stands = house
    sums = [[NOUGHT] * len(stand) for stand in stands]
    states = dict(first_states(start, player))
    for _ in range(many):
        later = {}
        for state, number in states.items():
            for deed, odd, _, chance, behind in ways_on(house, player, state):
                part = times(times(number, odd), chance)
                sums[state[0]][deed] = plus(sums[state[0]][deed], part)
                later[behind] = plus(later.get(behind, NOUGHT), times(share, part))
        states = later
    row = [NOUGHT] * len(stands)
    for (at, _), number in states.items():
        row[at] = plus(row[at], number)
    return sums, row


def check_player(house, start, player):
    """The checks of a house, a start and a player."""
    check_house(house)
    check_start(house, start)
    if not fits_player(house, player):
        raise InvalidPlayer(player)
