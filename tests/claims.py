"""Claims that are so with their papers, for the tests: of each word some, drawn and certified."""

import random
from fractions import Fraction

from deedhouses.certificates import (
    certify_always, certify_best, certify_coming, certify_keep, certify_most, certify_place,
)
from deedhouses.certifyruns import certify_missed, certify_same, certify_ways
from deedhouses.certifysights import certify_parted, certify_rows_left, certify_sight_best, certify_sight_keep
from deedhouses.certifyvague import certify_change, certify_move, certify_safe, certify_surely
from deedhouses.best import best
from deedhouses.bounds import most
from deedhouses.language import house_text
from deedhouses.mixes import mix_of
from deedhouses.players import player_pays
from deedhouses.plans import still_of
from deedhouses.runs import run, way_chance
from deedhouses.shares import minded_shares, still_of_shares
from deedhouses.timed import timed_worths
from deedhouses.worst import best_house, worst_house, worst_worths
from deedhouses.worths import pays_of
from tests.goings import draw_player
from tests.helpers import (
    ONE, draw_dim, draw_fitting, draw_house, draw_minded, draw_row, draw_start, draw_still, draw_vague, number, pair,
)
from tests.test_texts import draw_named

LITTLE = Fraction(1, 7)


def moved(told, by):
    """The number with a little more or less."""
    return pair(number(told) + by)


def moved_row(told, at, by):
    return told[:at] + (moved(told[at], by),) + told[at + 1:]


def house_claims(seed, stands=2, deeds=2):
    """Claims on a drawn house of two pays."""
    source = random.Random(seed)
    house = draw_house(seed, stands, deeds, 2)
    start, still, minded = draw_start(seed, house), draw_still(seed, house), draw_minded(seed, house, 2)
    weights = draw_row(source, 2)
    pays = pays_of(house, start, still)
    top = most(house, start, (None, None), 0)[1]
    goals = (source.randrange(stands),)
    shares = still_of_shares(house, start, minded_shares(house, start, minded))
    made = [
        (("pays", house, start, still, pays), ()), (("minded", house, start, minded, shares), ()), certify_best(house, weights),
        certify_keep(house, start, pays), certify_keep(house, start, (None, pays[1])), certify_keep(house, start, (moved(top, LITTLE), None)),
        certify_keep(house, start, (moved(top, LITTLE), pays[1])), certify_keep(house, start, (None, None)),
        certify_most(house, start, (None, pays[1]), 0), certify_most(house, start, pays, 0), certify_most(house, start, (None, None), 1),
        (("mixed", house, start, still, mix_of(house, start, still)), ()), certify_place(house, start, pays),
        certify_place(house, start, (moved(top, LITTLE), pays[1])), certify_place(house, start, (pays[0], (9999, 1))),
        (("timed", house, weights, 3, timed_worths(house, weights, 3)[-1]), ()), (("timed", house, weights, 0, ((0, 1),) * stands), ()),
    ]
    for stand in range(stands):
        for told in ((1, 3), (1, 1), (0, 1), (9, 8), (-1, 2)):
            made.append(certify_coming(house, goals, stand, told))
            made.append(certify_always(house, goals, stand, told))
    return made


def vague_claims(seed, stands=2, deeds=2):
    """Claims on a drawn vague house, and on how far a gain may move."""
    source = random.Random(seed)
    vague = draw_vague(seed, stands, deeds, 2)
    house = draw_fitting(seed, vague)
    start, still, weights = draw_start(seed, house), draw_still(seed, house), draw_row(source, 2)
    low = worst_worths(vague, weights, still)
    made = [(("fits", vague, house), ()), (("never below", vague, weights, still, low), low)]
    made.append((("never below", vague, weights, still, moved_row(low, 0, -LITTLE)), low))
    for stand in range(stands):
        above = moved(low[stand], LITTLE)
        made.append((("once below", vague, weights, still, stand, above), (worst_house(vague, weights, still), low)))
    safe = certify_safe(vague, weights, start, (-10 ** 6, 1))[1][1]
    reached = sum(number(one) * number(two) for one, two in zip(start, safe))
    for told in (reached, reached + LITTLE, reached - LITTLE):
        made.append(certify_safe(vague, weights, start, pair(told)))
    pays = pays_of(house, start, still)
    for by in (-9, -LITTLE, 0, LITTLE):
        bounds = tuple(moved(each, by) for each in pays)
        made.append(certify_surely(vague, start, bounds, still))
        made.append(certify_surely(vague, start, (None, bounds[1]), still))
    made.append(certify_surely(vague, start, (None, None), still))
    choice = tuple(source.randrange(len(stand)) for stand in vague[2])
    for stand, own in enumerate(vague[2]):
        for deed in range(len(own)):
            if deed != choice[stand]:
                made.append(certify_change(vague, weights, choice, stand, deed))
    # The best of the best houses' choices: some changes are surely better than others.
    chosen = best(best_house(vague, weights, still), weights)[1]
    best_choice = best(house, weights)[1]
    for stand, own in enumerate(house[2]):
        for deed in range(len(own)):
            if deed != chosen[stand]:
                made.append(certify_change(vague, weights, chosen, stand, deed))
            for told in ((-3, 1), (0, 1), (1, 9), (5, 1)):
                made.append(certify_move(house, weights, best_choice, stand, deed, told))
    return made


def sight_claims(seed, stands=3, marks=2):
    """Claims on a drawn dim house."""
    source = random.Random(seed)
    dim = draw_dim(seed, stands, 2, marks, 2)
    start, weights = draw_start(seed, dim[0]), draw_row(source, 2)
    made = [certify_sight_best(dim, start, weights, many) for many in (0, 1, 2)]
    made += [certify_rows_left(dim, weights, many) for many in (0, 1, 2)]
    for many in (0, 1, 2):
        top = certify_sight_best(dim, start, (ONE, (0, 1)), many)[0][-1]
        for by in (-9, -LITTLE, 0, LITTLE):
            made.append(certify_sight_keep(dim, start, (moved(top, by), None), many))
            made.append(certify_sight_keep(dim, start, (moved(top, by), (-20, 1)), many))
        made.append(certify_sight_keep(dim, start, (None, None), many))
    size = source.randint(1, 3)
    rows = tuple(draw_row(source, size) for _ in range(source.randint(1, 4)))
    for _ in range(3):
        made.append(certify_parted(rows, draw_row(source, size)))
    mean = tuple(pair(sum(number(each[at]) for each in rows) / len(rows)) for at in range(size))
    made += [certify_parted(rows, mean), certify_parted(rows, moved_row(mean, 0, LITTLE)), certify_parted(rows, moved_row(mean, 0, -LITTLE))]
    return made


def run_claims(seed, stands=2):
    """Claims on a drawn player and on texts."""
    source = random.Random(seed)
    named = draw_named(seed, stands, 2, 2)
    house = named[0]
    start = draw_start(seed, house)
    player = draw_player(seed, house)
    made = [(("reads", house_text(named), named), ()), certify_same(house, start, player)]
    made.append((("brings", house, start, player, player_pays(house, start, player)), ()))
    for many in (0, 1, 2, 5):
        dice = tuple(pair(Fraction(source.randrange(12), 12)) for _ in range(1 + 2 * many))
        way = run(house, start, player, dice)
        made.append((("run", house, start, player, dice, way), ()))
        made.append((("way", house, start, player, way, way_chance(house, start, player, way)), ()))
    still = ("still", still_of(house, (0,) * stands))
    for many in (0, 1, 2):
        made.append(certify_ways(house, start, still, many))
        made.append(certify_missed(house, start, still, many, (1, 3)))
        claim, paper = certify_missed(house, start, player, 21 + many, (9, 2))
        made += [(claim, paper), (claim[:-1] + (moved(claim[-1], LITTLE),), paper)]
    return made


def all_claims(seed):
    """Claims of all kinds."""
    return house_claims(seed) + vague_claims(seed) + sight_claims(seed) + run_claims(seed)
