"""Chains: what is left of a house when a plan has settled the deeds.

A chain is a triple (SHARE, MOVES, GAINS): for each state the row of the chances to be at each
state next, and the row of what is got on the mean.
"""

from deedhouses.equations import solved, solved_across
from deedhouses.ratios import NOUGHT, ONE, column, common_bottom, dot, minus, plus, ratio, scaled, times


def still_chain(house, still):
    """The chain of a still plan: its states are the stands."""
    share, pays, stands = house
    moves, gains = [], []
    for stand, odds in zip(stands, still):
        move = [NOUGHT] * len(stands)
        for (chances, _), odd in zip(stand, odds):
            for at, chance in chances:
                move[at] = plus(move[at], times(odd, chance))
        moves.append(move)
        gains.append(mean_gains(stand, odds, pays))
    return share, moves, gains


def minded_chain(house, minded):
    """The chain of a minded plan: its states are the minds of stand 0, those of stand 1, and so on."""
    share, pays, stands = house
    minds, rows, turns = minded
    moves, gains = [], []
    for stand, many_odds, nexts in zip(stands, rows, turns):
        for mind, odds in enumerate(many_odds):
            move = [NOUGHT] * (len(stands) * minds)
            for (chances, _), odd, later in zip(stand, odds, nexts):
                for at, chance in chances:
                    state = at * minds + later[mind]
                    move[state] = plus(move[state], times(odd, chance))
            moves.append(move)
            gains.append(mean_gains(stand, odds, pays))
    return share, moves, gains


def minded_start(start, minds):
    """The start of a minded plan's chain: one begins with the mind 0."""
    row = []
    for chance in start:
        row.append(chance)
        row.extend([NOUGHT] * (minds - 1))
    return row


def mean_gains(stand, odds, pays):
    """The row of what the odds of a stand get on the mean."""
    gains = [deed[1] for deed in stand]
    return [dot(odds, column(gains, pay)) for pay in range(pays)]


def balance(share, moves):
    """The matrix of the equations: each state's own number less the share of those it moves to."""
    rows = []
    for at, move in enumerate(moves):
        rows.append([minus(ONE if to == at else NOUGHT, times(share, chance)) for to, chance in enumerate(move)])
    return rows


def chain_worths(chain):
    """For each state the row of its pays."""
    share, moves, gains = chain
    return solved(balance(share, moves), gains)


def chain_counts(chain, start):
    """For each state how often one is there, each time counted by the share."""
    share, moves, _ = chain
    return solved_across(balance(share, moves), start)


def step_counts(chain, start, many):
    """For each state how often one is there in so many steps, each time counted by the share."""
    share, moves, _ = chain
    under = common_bottom([chance for move in moves for chance in move])
    wholes = [scaled(move, under) for move in moves]
    bottom = common_bottom(start)
    tops = scaled(start, bottom)
    sums = [0] * len(tops)
    # TOPS, how likely each state is now times the share's power, and SUMS are both over BOTTOM.
    for _ in range(many):
        sums = [(each + top) * share[1] * under for each, top in zip(sums, tops)]
        tops = [share[0] * lead_to(wholes, tops, to) for to in range(len(tops))]
        bottom = bottom * share[1] * under
    return [ratio(each, bottom) for each in sums]


def counts_in(chain, start, many):
    """For each state how often one is there in so many steps, or, for None, in all of them."""
    return chain_counts(chain, start) if many is None else step_counts(chain, start, many)


def lead_to(moves, tops, to):
    """The sum of all states' numbers times their moves to one state."""
    return sum([top * move[to] for top, move in zip(tops, moves)])


def counted_pays(chain, counts):
    """The row of pays that the gains make where each state is counted so often."""
    gains = chain[2]
    return tuple([dot(counts, column(gains, pay)) for pay in range(len(gains[0]))])
