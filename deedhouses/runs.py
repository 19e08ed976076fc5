"""Runs of players by dice, their ways, and the chances of these."""

from deedhouses.errors import InvalidDice, InvalidWay, TooMany
from deedhouses.houses import check_house, check_number, is_step
from deedhouses.minds import first_mind, first_states, mind_behind, odds_in, ways_on
from deedhouses.players import check_player
from deedhouses.ratios import NOUGHT, ONE, dot, is_below, is_from_nought, plus, times, total


def run(house, start, player, dice):
    """The way that the player goes by the dice."""
    check_player(house, start, player)
    check_dice(dice)
    return thrown_way(house, start, player, dice)


def thrown_way(house, start, player, dice):
    """The way that the player goes by the dice, where all arguments are known to be right."""
    at = picked(start, dice[0])
    mind = first_mind(player, at)
    way = []
    for place in range(1, len(dice), 2):
        deed = picked(odds_in(player, mind, at), dice[place])
        chances = house[2][at][deed][0]
        to = chances[picked([chance for _, chance in chances], dice[place + 1])][0]
        way.append((at, deed, to))
        mind = mind_behind(player, mind, at, deed, to)
        at = to
    return tuple(way)


def picked(row, die):
    """The index that the die picks from a row of chances of sum 1."""
    at = 0
    passed = row[0]
    while not is_below(die, passed):
        at += 1
        passed = plus(passed, row[at])
    return at


def way_chance(house, start, player, way):
    """The chance of the way."""
    check_player(house, start, player)
    check_way(house, way)
    return chance_of(house, start, player, way)


def chance_of(house, start, player, way):
    """The chance of the way, where all arguments are known to be right."""
    chance = ONE
    for row, at in picks_of(house, start, player, way):
        chance = times(chance, row[at])
    return chance


def picks_of(house, start, player, way):
    """For each die of the way the row that it picks from, and the index that it picks."""
    if way == ():
        # Wherever one begins the way is this one: the die may be any.
        return [((ONE,), 0)]
    first = way[0][0]
    picks = [(start, first)]
    mind = first_mind(player, first)
    for at, deed, to in way:
        chances = house[2][at][deed][0]
        picks.append((odds_in(player, mind, at), deed))
        picks.append(([chance for _, chance in chances], [stand for stand, _ in chances].index(to)))
        mind = mind_behind(player, mind, at, deed, to)
    return picks


def box_of(house, start, player, way):
    """The stretch of each die that makes the way; None for a way of chance 0."""
    check_player(house, start, player)
    check_way(house, way)
    box = []
    for row, at in picks_of(house, start, player, way):
        if row[at] == NOUGHT:
            return None
        low = total(row[:at])
        box.append((low, plus(low, row[at])))
    return tuple(box)


def way_pays(house, way):
    """What is got on the way, counted by the share."""
    check_house(house)
    check_way(house, way)
    return pays_on(house, way)


def pays_on(house, way):
    """What is got on the way, where both arguments are known to be right."""
    share, pays, stands = house
    counts = [ONE]
    for _ in way:
        counts.append(times(share, counts[-1]))
    gains = [stands[at][deed][1] for at, deed, _ in way]
    return tuple([dot(counts, [each[pay] for each in gains]) for pay in range(pays)])


def mean_on(house, pairs):
    """The mean of the ways' pays, of pairs of a way and its chance."""
    rows = [pays_on(house, way) for way, _ in pairs]
    return tuple([dot([chance for _, chance in pairs], [row[pay] for row in rows]) for pay in range(house[1])])


def count_ways(house, start, player, many):
    """How many ways of so many steps have a chance above 0."""
    check_player(house, start, player)
    check_number(many, 0, 60)
    return counted_ways(house, start, player, many)


def counted_ways(house, start, player, many):
    """How many ways there are, where all arguments are known to be right."""
    if many == 0:
        return 1
    states = {state: 1 for state, _ in first_states(start, player)}
    for _ in range(many):
        later = {}
        for state, number in states.items():
            for _, _, _, _, behind in ways_on(house, player, state):
                later[behind] = later.get(behind, 0) + number
        states = later
    return sum(list(states.values()))


def ways(house, start, player, many):
    """The ascending pairs of a way of so many steps and its chance above 0."""
    check_player(house, start, player)
    check_number(many, 0, 20)
    return all_ways_of(house, start, player, many)


def all_ways_of(house, start, player, many):
    """All ways with their chances, where all arguments are known to be right; TooMany for more than 400."""
    number = counted_ways(house, start, player, many)
    if number > 400:
        raise TooMany(number)
    if many == 0:
        return (((), ONE),)
    found = [((), chance, state) for state, chance in first_states(start, player)]
    # One begins with the least stand and goes on with the least deed: so the ways stay ascending.
    for _ in range(many):
        longer = []
        for way, chance, state in found:
            for deed, odd, to, own, behind in ways_on(house, player, state):
                longer.append((way + ((state[0], deed, to),), times(chance, times(odd, own)), behind))
        found = longer
    return tuple([(way, chance) for way, chance, _ in found])


def wrong_step(house, way):
    """The index of the first element of a tuple that can't be there in a way; None."""
    for at, each in enumerate(way):
        if not is_step(house, each) or (at > 0 and each[0] != way[at - 1][2]):
            return at
    return None


def is_way(house, value):
    """Whether any value is a way of what is known to be a house."""
    return isinstance(value, tuple) and len(value) <= 60 and wrong_step(house, value) is None


def check_way(house, way):
    """Raises InvalidWay for no way of the house."""
    if not isinstance(way, tuple) or len(way) > 60:
        raise InvalidWay(None)
    at = wrong_step(house, way)
    if at is not None:
        raise InvalidWay(at)


def is_die(value):
    """Whether any value is a die."""
    return is_from_nought(value) and is_below(value, ONE)


def are_dice(value):
    """Whether any value is dice."""
    return is_dice_form(value) and all([is_die(die) for die in value])


def is_dice_form(value):
    """Whether any value is a tuple of an odd number of elements up to 121."""
    return isinstance(value, tuple) and len(value) <= 121 and len(value) % 2 == 1


def check_dice(dice):
    """Raises InvalidDice for no dice."""
    if not is_dice_form(dice):
        raise InvalidDice(None)
    for at, die in enumerate(dice):
        if not is_die(die):
            raise InvalidDice(at)
