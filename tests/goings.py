"""Going by hand, for the tests: players that look at all that has been, and all their ways."""

import random
from fractions import Fraction

from tests.helpers import draw_minded, draw_odds, draw_still, number


def draw_memory(source, house, steps):
    """A drawn memory of so many steps."""
    at = source.randrange(len(house[2]))
    memory = (at,)
    for _ in range(steps):
        deed = source.randrange(len(house[2][at]))
        at = source.choice(house[2][at][deed][0])[0]
        memory += (deed, at)
    return memory


def draw_told(seed, house, most=12):
    """A drawn told plan, with memories of all lengths."""
    source = random.Random(seed)
    memories = {draw_memory(source, house, source.randint(0, 4)) for _ in range(source.randint(0, most))}
    lists = tuple((memory, draw_odds(source, len(house[2][memory[-1]]))) for memory in sorted(memories))
    return lists, draw_still(seed, house)


def draw_player(seed, house):
    """A drawn player; its kinds take turns."""
    kind = ("still", "minded", "told")[seed % 3]
    if kind == "still":
        return kind, draw_still(seed, house)
    if kind == "minded":
        return kind, draw_minded(seed, house, 1 + seed // 3 % 4)
    return kind, draw_told(seed, house)


def odds_after(player, history):
    """The odds of a player behind all that has been: a stand, a deed, a stand, and so on."""
    kind, plan = player
    if kind == "still":
        return plan[history[-1]]
    if kind == "minded":
        mind = 0
        for at in range(0, len(history) - 1, 2):
            mind = plan[2][history[at]][history[at + 1]][mind]
        return plan[1][history[-1]][mind]
    for memory, odds in plan[0]:
        if memory == history:
            return odds
    return plan[1][history[-1]]


def histories(house, start, player, many):
    """All that may be in so many steps, with a chance above 0: the history and its chance."""
    found = [((at,), number(chance)) for at, chance in enumerate(start) if number(chance) > 0]
    for _ in range(many):
        longer = []
        for history, chance in found:
            for deed, odd in enumerate(odds_after(player, history)):
                for to, own in house[2][history[-1]][deed][0]:
                    if number(odd) > 0:
                        longer.append((history + (deed, to), chance * number(odd) * number(own)))
        found = longer
    return found


def way_of(history):
    return tuple((history[at], history[at + 1], history[at + 2]) for at in range(0, len(history) - 1, 2))


def gone_ways(house, start, player, many):
    """All ways of so many steps with their chances above 0."""
    sums = {}
    for history, chance in histories(house, start, player, many):
        sums[way_of(history)] = sums.get(way_of(history), Fraction(0)) + chance
    return sums


def gains_on(house, way):
    """What is got on a way, counted by the share."""
    sums = [Fraction(0)] * house[1]
    for step, (at, deed, _) in enumerate(way):
        for pay, gain in enumerate(house[2][at][deed][1]):
            sums[pay] += number(house[0]) ** step * number(gain)
    return sums


def gone_steps(house, start, player, many):
    """The pays of so many steps, from all histories."""
    sums = [Fraction(0)] * house[1]
    for way, chance in gone_ways(house, start, player, many).items():
        sums = [one + chance * two for one, two in zip(sums, gains_on(house, way))]
    return sums


def rolled(house, start, player, many):
    """The pays of so many steps, from stands and minds step by step; told plans only as far as they remember."""
    sums, share = [Fraction(0)] * house[1], Fraction(1)
    held = {((at,), 0): number(chance) for at, chance in enumerate(start)}
    for step in range(many):
        later = {}
        for (history, mind), chance in held.items():
            at = history[-1]
            odds = player[1][1][at][mind] if player[0] == "minded" else odds_after(player, history)
            for deed, odd in enumerate(odds):
                if chance == 0 or number(odd) == 0:
                    continue
                for pay, gain in enumerate(house[2][at][deed][1]):
                    sums[pay] += share * chance * number(odd) * number(gain)
                turned = player[1][2][at][deed][mind] if player[0] == "minded" else 0
                for to, own in house[2][at][deed][0]:
                    # Behind nine elements, and for other kinds at once, the last stand is all that matters.
                    longer = history + (deed, to) if player[0] == "told" and step < 5 else (None, to)
                    key = longer, turned
                    later[key] = later.get(key, Fraction(0)) + chance * number(odd) * number(own)
        held, share = later, share * number(house[0])
    return sums
