"""The claims on texts, players, runs and what a log misses: whether a paper is one for a claim.

Each judge is passed what stands behind a claim's word, and the paper; both may be any values.
"""

from deedhouses.checkhouses import is_begun
from deedhouses.errors import HouseError
from deedhouses.language import is_named, read_house
from deedhouses.misses import bound_of_miss, missed_of
from deedhouses.mixes import is_ascending, is_thrown
from deedhouses.plans import fits_still
from deedhouses.players import counted_deeds, fits_player
from deedhouses.ratios import NOUGHT, is_below, is_fraction, is_from_nought, is_row, is_tuple, is_within
from deedhouses.runs import are_dice, chance_of, is_way, mean_on, thrown_way
from deedhouses.shares import pays_by
from deedhouses.worths import pays_from


def judge_reads(parts, paper):
    """The text tells this named house."""
    if not is_tuple(parts, 2) or not isinstance(parts[0], str) or not is_named(parts[1]) or paper != ():
        return False
    try:
        told = read_house(parts[0])
    except HouseError:
        return False
    return told == parts[1]


def is_played(parts, many):
    """Whether any value is a house, a start, a player and so many parts in all."""
    return is_tuple(parts, many) and is_begun(parts[0], parts[1]) and fits_player(parts[0], parts[2])


def judge_run(parts, paper):
    """The player's run by the dice is this way."""
    if not is_played(parts, 5):
        return False
    house, start, player, dice, way = parts
    if not are_dice(dice) or not is_way(house, way) or paper != ():
        return False
    return thrown_way(house, start, player, dice) == way


def judge_way(parts, paper):
    """The way has this chance."""
    if not is_played(parts, 5):
        return False
    house, start, player, way, chance = parts
    if not is_way(house, way) or not is_fraction(chance):
        return False
    return paper == () and chance_of(house, start, player, way) == chance


def are_all_ways(house, start, player, many, value):
    """Whether any value is the pairs of all ways of so many steps and their chances, ascending."""
    if not isinstance(value, tuple) or not all([is_tuple(pair, 2) and is_way(house, pair[0]) for pair in value]):
        return False
    ways = [way for way, _ in value]
    if not all([len(way) == many for way in ways]) or not is_ascending(ways):
        return False
    # Their chances are above 0 and 1 together: so none is left out.
    if not is_thrown(tuple([(chance, way) for way, chance in value])):
        return False
    return all([chance_of(house, start, player, way) == chance for way, chance in value])


def judge_ways(parts, paper):
    """The mean of the pays over all ways of so many steps is this one."""
    if not is_played(parts, 5):
        return False
    house, start, player, many, pays = parts
    if not is_within(many, 0, 20) or not is_row(pays, house[1]):
        return False
    return are_all_ways(house, start, player, many, paper) and mean_on(house, paper) == pays


def played_pays(house, start, player):
    """The player's pays."""
    return pays_by(house, counted_deeds(house, start, player, None))


def judge_brings(parts, paper):
    """The player has these pays."""
    if not is_played(parts, 4):
        return False
    house, start, player, pays = parts
    return is_row(pays, house[1]) and paper == () and played_pays(house, start, player) == pays


def judge_same(parts, paper):
    """The still plan has the player's pays."""
    if not is_played(parts, 4):
        return False
    house, start, player, still = parts
    if not fits_still(house, still) or paper != ():
        return False
    return played_pays(house, start, player) == pays_from(house, start, still)


def judge_missed(parts, paper):
    """A way of so many steps misses the house with at most this chance: by the bound, or by all ways."""
    if not is_played(parts, 6):
        return False
    house, start, player, many, allowance, number = parts
    if not is_within(many, 0, 60) or not is_from_nought(allowance) or allowance == NOUGHT or not is_fraction(number):
        return False
    if paper == ():
        return not is_below(number, bound_of_miss(house, start, player, many, allowance))
    if many > 20 or not are_all_ways(house, start, player, many, paper):
        return False
    return not is_below(number, missed_of(house, allowance, paper))


JUDGES = {
    "reads": judge_reads,
    "run": judge_run,
    "way": judge_way,
    "ways": judge_ways,
    "brings": judge_brings,
    "same": judge_same,
    "missed": judge_missed,
}


def accepts_on_runs(claim, paper):
    """Whether the paper is one for the claim, if that has a word of this file."""
    judge = JUDGES.get(claim[0])
    return judge is not None and judge(claim[1:], paper)
