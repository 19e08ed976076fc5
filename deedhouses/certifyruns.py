"""Claims on players and their ways with papers for them."""

from deedhouses.houses import check_number
from deedhouses.misses import bound_of_miss, check_above, missed_of
from deedhouses.players import check_player, player_shares
from deedhouses.runs import all_ways_of, counted_ways, mean_on, ways
from deedhouses.shares import still_from


def certify_ways(house, start, player, many):
    """What the mean of the pays over all ways is."""
    pairs = ways(house, start, player, many)
    return ("ways", house, start, player, many, mean_on(house, pairs)), pairs


def certify_missed(house, start, player, many, allowance):
    """With what chance at most a way misses the house: the chance itself if there are few ways."""
    check_player(house, start, player)
    check_number(many, 0, 60)
    check_above(allowance)
    claim = ("missed", house, start, player, many, allowance)
    if many > 20 or counted_ways(house, start, player, many) > 400:
        return claim + (bound_of_miss(house, start, player, many, allowance),), ()
    pairs = all_ways_of(house, start, player, many)
    return claim + (missed_of(house, allowance, pairs),), pairs


def certify_same(house, start, player):
    """A still plan that has the player's pays."""
    return ("same", house, start, player, still_from(player_shares(house, start, player))), ()
