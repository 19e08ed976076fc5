"""A second judge of claims and papers, for the tests: point [50]'s words, with Python's own fractions."""

from fractions import Fraction
from itertools import product

from deedhouses.errors import HouseError
from deedhouses.goals import is_goal_row
from deedhouses.houses import is_house, is_start
from deedhouses.language import is_named, read_house
from deedhouses.mixes import is_mix
from deedhouses.plans import is_choice, is_minded, is_still
from deedhouses.players import is_player
from deedhouses.sightbounds import is_sight_mix
from deedhouses.sights import is_dim, is_lookout
from deedhouses.stretches import is_vague
from deedhouses.worths import minded_pays
from tests.goings import gains_on, histories, odds_after
from tests.helpers import (
    all_gaps, answers, are_chances_of_one, deeds_of_mark, end_rows, fits_too, gap, is_plain_fraction, number, pair, plain, plain_pays,
    row, tree_number, weighted_worths,
)


def is_row_of(value, many):
    return type(value) is tuple and len(value) == many and all(is_plain_fraction(each) for each in value)


def is_bounds_of(house, value):
    if type(value) is not tuple or len(value) != house[1]:
        return False
    return all(each is None or is_plain_fraction(each) for each in value)


def is_index(value, many):
    return type(value) is int and 0 <= value < many


def is_paper_of(paper, many):
    return type(paper) is tuple and len(paper) == many


def weighted_sum(one, two):
    return sum((number(a) * number(b) for a, b in zip(one, two)), Fraction(0))


def keeps(bounds, pays):
    return all(bound is None or pay >= number(bound) for pay, bound in zip(pays, bounds))


def wished(weights, bounds):
    """The sum of weights times bounds; None if a weight is below 0, or above it where there is no bound."""
    for weight, bound in zip(weights, bounds):
        if weight < 0 or (bound is None and weight != 0):
            return None
    return sum((weight * number(bound) for weight, bound in zip(weights, bounds) if bound is not None), Fraction(0))


def least_gap(house, weights, worths):
    return min(all_gaps(house, row(weights), row(worths)))


def steady(house, start):
    return is_house(house) and is_start(house, start)


def pays(parts, paper):
    house, start, still, told = parts
    if not steady(house, start) or not is_still(house, still) or not is_row_of(told, house[1]):
        return False
    return paper == () and plain_pays(house, start, still) == row(told)


def minded(parts, paper):
    house, start, plan, still = parts
    if not steady(house, start) or not is_minded(house, plan) or not is_still(house, still):
        return False
    return paper == () and row(minded_pays(house, start, plan)) == plain_pays(house, start, still)


def best(parts, paper):
    house, weights, worths = parts
    if not is_house(house) or not is_row_of(weights, house[1]) or not is_row_of(worths, len(house[2])) or not is_choice(house, paper):
        return False
    return weighted_worths(house, weights, plain(house, paper)) == row(worths) and least_gap(house, weights, worths) >= 0


def is_bounded_house(parts):
    return steady(parts[0], parts[1]) and is_bounds_of(parts[0], parts[2])


def kept(parts, paper):
    if not is_bounded_house(parts) or not is_still(parts[0], paper):
        return False
    return keeps(parts[2], plain_pays(parts[0], parts[1], paper))


def not_kept(parts, paper):
    if not is_bounded_house(parts) or not is_paper_of(paper, 2):
        return False
    house, start, bounds = parts
    if not is_row_of(paper[0], house[1]) or not is_row_of(paper[1], len(house[2])):
        return False
    sum_of_bounds = wished(row(paper[0]), bounds)
    return sum_of_bounds is not None and least_gap(house, *paper) >= 0 and weighted_sum(start, paper[1]) < sum_of_bounds


def most(parts, paper):
    if not is_bounded_house(parts[:3]) or not is_paper_of(paper, 3):
        return False
    house, start, bounds, pay, told = parts
    if not is_index(pay, house[1]) or not is_plain_fraction(told) or not is_still(house, paper[0]):
        return False
    if not is_row_of(paper[1], house[1]) or not is_row_of(paper[2], len(house[2])):
        return False
    got = plain_pays(house, start, paper[0])
    less = [number(weight) - (at == pay) for at, weight in enumerate(paper[1])]
    rest = wished(less, bounds)
    if not keeps(bounds, got) or got[pay] != number(told) or rest is None or least_gap(house, *paper[1:]) < 0:
        return False
    return weighted_sum(start, paper[2]) - rest == number(told)


def mixed(parts, paper):
    house, start, still, mix = parts
    if not steady(house, start) or not is_still(house, still) or not is_mix(house, mix) or paper != ():
        return False
    sums = [Fraction(0)] * house[1]
    for chance, choice in mix:
        sums = [one + number(chance) * two for one, two in zip(sums, plain_pays(house, start, plain(house, choice)))]
    return sums == plain_pays(house, start, still)


def is_pair_of(parts):
    return steady(parts[0], parts[1]) and parts[0][1] == 2 and is_row_of(parts[2], 2)


def inside(parts, paper):
    return is_pair_of(parts) and is_still(parts[0], paper) and plain_pays(parts[0], parts[1], paper) == row(parts[2])


def outside(parts, paper):
    if not is_pair_of(parts) or not is_paper_of(paper, 2):
        return False
    if not is_row_of(paper[0], 2) or not is_row_of(paper[1], len(parts[0][2])):
        return False
    return least_gap(parts[0], *paper) >= 0 and weighted_sum(parts[1], paper[1]) < weighted_sum(paper[0], parts[2])


def is_aim(parts):
    house, goals, stand, told = parts
    return is_house(house) and is_goal_row(house, goals) and is_index(stand, len(house[2])) and is_plain_fraction(told)


def coming(house, goals, choice):
    """The chances of coming of a choice, by the equations of those that can come."""
    stands = house[2]
    deeds = [[(to, number(chance)) for to, chance in stand[deed][0]] for stand, deed in zip(stands, choice)]
    able = set(goals)
    for _ in stands:
        able |= {at for at, own in enumerate(deeds) if any(to in able for to, _ in own)}
    matrix, rights = [], []
    for at, own in enumerate(deeds):
        line = [Fraction(int(to == at)) for to in range(len(stands))]
        if at in able and at not in goals:
            for to, chance in own:
                line[to] -= chance
        matrix.append(line)
        rights.append(Fraction(int(at in goals)))
    return answers(matrix, rights)


def comes(parts, paper):
    return is_aim(parts) and is_choice(parts[0], paper) and coming(parts[0], parts[1], paper)[parts[2]] >= number(parts[3])


def comes_less(parts, paper):
    return is_aim(parts) and is_choice(parts[0], paper) and coming(parts[0], parts[1], paper)[parts[2]] < number(parts[3])


def mean(chances, worths):
    return sum((number(chance) * worths[to] for to, chance in chances), Fraction(0))


def comes_not(parts, paper):
    if not is_aim(parts) or not is_row_of(paper, len(parts[0][2])):
        return False
    house, goals, stand, told = parts
    worths = row(paper)
    for at, worth in enumerate(worths):
        if worth < 0 or (at in goals and worth < 1):
            return False
        if at not in goals and any(worth < mean(chances, worths) for chances, _ in house[2][at]):
            return False
    return worths[stand] < number(told)


def always_comes(parts, paper):
    if not is_aim(parts) or not is_paper_of(paper, 2) or not is_row_of(paper[0], len(parts[0][2])):
        return False
    house, goals, stand, told = parts
    worths, ranks = row(paper[0]), paper[1]
    if not is_paper_of(ranks, len(worths)) or not all(type(rank) is int and rank >= 0 for rank in ranks):
        return False
    for at, worth in enumerate(worths):
        if at in goals:
            if worth > 1:
                return False
        elif ranks[at] == 0:
            if worth > 0:
                return False
        else:
            for chances, _ in house[2][at]:
                if worth > mean(chances, worths) or not any(to in goals or ranks[to] < ranks[at] for to, _ in chances):
                    return False
    return worths[stand] >= number(told)


def timed(parts, paper):
    house, weights, many, told = parts
    if not is_house(house) or not is_row_of(weights, house[1]) or not is_index(many, 31) or not is_row_of(told, len(house[2])):
        return False
    worths = [Fraction(0)] * len(house[2])
    for _ in range(many):
        worths = [
            max(weighted_sum(weights, gains) + number(house[0]) * mean(chances, worths) for chances, gains in stand)
            for stand in house[2]
        ]
    return paper == () and worths == row(told)


def least_mean(stretches, worths):
    """The least sum by all corner rows."""
    return min(sum(chance * worths[at] for chance, (at, _, _) in zip(own, stretches)) for own in end_rows(stretches))


def made_least(vague, weights, still, worths):
    made = []
    for stand, odds in zip(vague[2], still):
        brought = [weighted_sum(weights, gains) + number(vague[0]) * least_mean(ways, worths) for ways, gains in stand]
        made.append(sum((number(odd) * each for odd, each in zip(odds, brought)), Fraction(0)))
    return made


def made_in(house, weights, still, worths):
    made = []
    for stand, odds in zip(house[2], still):
        brought = [weighted_sum(weights, gains) + number(house[0]) * mean(chances, worths) for chances, gains in stand]
        made.append(sum((number(odd) * each for odd, each in zip(odds, brought)), Fraction(0)))
    return made


def is_under(vague, weights, still, worths):
    if not is_row_of(worths, len(vague[2])):
        return False
    return all(one <= two for one, two in zip(row(worths), made_least(vague, weights, still, row(worths))))


def is_over(vague, weights, still, house, worths):
    if not is_house(house) or not fits_too(vague, house) or not is_row_of(worths, len(vague[2])):
        return False
    return all(one >= two for one, two in zip(row(worths), made_in(house, weights, still, row(worths))))


def is_weighted_vague(parts):
    return is_vague(parts[0]) and is_row_of(parts[1], parts[0][1])


def is_still_of(vague, value):
    """Whether a value is a still plan of a vague house."""
    if type(value) is not tuple or len(value) != len(vague[2]):
        return False
    return all(are_chances_of_one(odds, len(stand)) for odds, stand in zip(value, vague[2]))


def is_choice_of(vague, value):
    return type(value) is tuple and len(value) == len(vague[2]) and all(is_index(deed, len(stand)) for deed, stand in zip(value, vague[2]))


def fits(parts, paper):
    return is_vague(parts[0]) and is_house(parts[1]) and paper == () and fits_too(*parts)


def never_below(parts, paper):
    if not is_weighted_vague(parts) or not is_still_of(parts[0], parts[2]) or not is_row_of(parts[3], len(parts[0][2])):
        return False
    return is_under(*parts[:3], paper) and all(one >= two for one, two in zip(row(paper), row(parts[3])))


def once_below(parts, paper):
    if not is_weighted_vague(parts) or not is_still_of(parts[0], parts[2]) or not is_index(parts[3], len(parts[0][2])):
        return False
    if not is_plain_fraction(parts[4]) or not is_paper_of(paper, 2):
        return False
    return is_over(*parts[:3], *paper) and number(paper[1][parts[3]]) < number(parts[4])


def is_start_of(vague, value):
    return are_chances_of_one(value, len(vague[2]))


def safe(parts, paper):
    if not is_weighted_vague(parts) or not is_start_of(parts[0], parts[2]) or not is_plain_fraction(parts[3]) or not is_paper_of(paper, 2):
        return False
    if not is_choice_of(parts[0], paper[0]) or not is_under(parts[0], parts[1], plain(parts[0], paper[0]), paper[1]):
        return False
    return weighted_sum(parts[2], paper[1]) >= number(parts[3])


def unsafe(parts, paper):
    if not is_weighted_vague(parts) or not is_start_of(parts[0], parts[2]) or not is_plain_fraction(parts[3]) or not is_paper_of(paper, 2):
        return False
    if not is_house(paper[0]) or not fits_too(parts[0], paper[0]) or not is_row_of(paper[1], len(parts[2])):
        return False
    return least_gap(paper[0], parts[1], paper[1]) >= 0 and weighted_sum(parts[2], paper[1]) < number(parts[3])


def alone(many, at):
    return tuple((int(each == at), 1) for each in range(many))


def is_vague_bounded(parts):
    vague, start, bounds, still = parts
    return is_vague(vague) and is_start_of(vague, start) and is_bounds_of(vague, bounds) and is_still_of(vague, still)


def surely_keeps(parts, paper):
    if not is_vague_bounded(parts):
        return False
    vague, start, bounds, still = parts
    asked = [pay for pay, bound in enumerate(bounds) if bound is not None]
    if not is_paper_of(paper, len(asked)):
        return False
    return all(
        is_under(vague, alone(vague[1], pay), still, worths) and weighted_sum(start, worths) >= number(bounds[pay])
        for pay, worths in zip(asked, paper)
    )


def keeps_not_surely(parts, paper):
    if not is_vague_bounded(parts) or not is_paper_of(paper, 3) or not is_index(paper[0], parts[0][1]):
        return False
    vague, start, bounds, still = parts
    pay, house, worths = paper
    if bounds[pay] is None or not is_over(vague, alone(vague[1], pay), still, house, worths):
        return False
    return weighted_sum(start, worths) < number(bounds[pay])


def is_change(parts):
    vague, _, choice, stand, deed = parts
    if not is_weighted_vague(parts) or not is_choice_of(vague, choice) or not is_index(stand, len(vague[2])):
        return False
    return is_index(deed, len(vague[2][stand])) and deed != choice[stand]


def surely_better(parts, paper):
    if not is_change(parts) or type(paper) is not tuple:
        return False
    vague, weights, choice, stand, deed = parts
    lots = [sorted(end_rows(own[done][0])) for own, done in zip(vague[2], choice)]
    many = 1
    for lot in lots:
        many *= len(lot)
    if len(paper) != many or not all(is_row_of(worths, len(vague[2])) for worths in paper):
        return False
    share = number(vague[0])
    for picked, told in zip(product(*lots), paper):
        worths = row(told)
        for at, own in enumerate(picked):
            stretches, gains = vague[2][at][choice[at]]
            behind = sum((chance * worths[to] for chance, (to, _, _) in zip(own, stretches)), Fraction(0))
            if worths[at] != weighted_sum(weights, gains) + share * behind:
                return False
        stretches, gains = vague[2][stand][deed]
        if weighted_sum(weights, gains) + share * least_mean(stretches, worths) < worths[stand]:
            return False
    return True


def once_worse(parts, paper):
    if not is_change(parts) or not is_paper_of(paper, 2) or not is_house(paper[0]) or not fits_too(parts[0], paper[0]):
        return False
    vague, weights, choice, stand, deed = parts
    house, worths = paper
    if not is_row_of(worths, len(vague[2])) or made_in(house, weights, plain(house, choice), row(worths)) != row(worths):
        return False
    return gap(house, row(weights), row(worths), stand, deed) > 0


def raised(parts):
    house, weights, _, stand, deed, told = parts
    stands = []
    for at, own in enumerate(house[2]):
        deeds = []
        for index, (chances, gains) in enumerate(own):
            more = number(told) if (at, index) == (stand, deed) else 0
            deeds.append((chances, (pair(weighted_sum(weights, gains) + more),)))
        stands.append(tuple(deeds))
    return house[0], 1, tuple(stands)


def is_move(parts):
    house, weights, choice, stand, deed, told = parts
    if not is_house(house) or not is_row_of(weights, house[1]) or not is_choice(house, choice) or not is_index(stand, len(house[2])):
        return False
    if not is_index(deed, len(house[2][stand])) or not is_plain_fraction(told):
        return False
    worths = [pair(each) for each in weighted_worths(house, weights, plain(house, choice))]
    return least_gap(house, weights, worths) >= 0


def stays(parts, paper):
    if not is_move(parts) or not is_row_of(paper, len(parts[0][2])):
        return False
    changed = raised(parts)
    if made_in(changed, ((1, 1),), plain(changed, parts[2]), row(paper)) != row(paper):
        return False
    return least_gap(changed, ((1, 1),), paper) >= 0


def stays_not(parts, paper):
    if not is_move(parts) or not is_paper_of(paper, 3) or not is_row_of(paper[0], len(parts[0][2])):
        return False
    changed = raised(parts)
    if not is_index(paper[1], len(changed[2])) or not is_index(paper[2], len(changed[2][paper[1]])):
        return False
    if made_in(changed, ((1, 1),), plain(changed, parts[2]), row(paper[0])) != row(paper[0]):
        return False
    return gap(changed, [Fraction(1)], row(paper[0]), paper[1], paper[2]) < 0


def sight_best_of(dim, weights, many, hold):
    """The best by sight from a row of numbers for all stands: for each mark the greatest deed."""
    if many == 0:
        return Fraction(0)
    share, _, stands = dim[0]
    whole = Fraction(0)
    for mark in range(max(dim[1]) + 1):
        held = [at for at, own in enumerate(dim[1]) if own == mark and hold[at] > 0]
        if held:
            found = []
            for deed in range(deeds_of_mark(dim, mark)):
                behind = [Fraction(0)] * len(stands)
                got = Fraction(0)
                for at in held:
                    chances, gains = stands[at][deed]
                    got += hold[at] * weighted_sum(weights, gains)
                    for to, chance in chances:
                        behind[to] += hold[at] * number(chance)
                found.append(got + number(share) * sight_best_of(dim, weights, many - 1, behind))
            whole += max(found)
    return whole


def sight_best(parts, paper):
    dim, start, weights, many, told = parts
    if not is_dim(dim) or not is_start(dim[0], start) or not is_row_of(weights, dim[0][1]) or not is_index(many, 5):
        return False
    return is_plain_fraction(told) and paper == () and sight_best_of(dim, weights, many, row(start)) == number(told)


def are_rows_of(rows, own):
    if type(rows) is not tuple or not 1 <= len(rows) <= 60 or type(rows[0]) is not tuple or not 1 <= len(rows[0]) <= 8:
        return False
    return all(is_row_of(each, len(rows[0])) for each in (*rows, own))


def above(rows, own, paper):
    return are_chances_of_one(paper, len(own)) and all(weighted_sum(paper, own) > weighted_sum(paper, each) for each in rows)


def under_mean(rows, own, paper):
    if not are_chances_of_one(paper, len(rows)):
        return False
    return all(weighted_sum(paper, [each[at] for each in rows]) >= number(own[at]) for at in range(len(own)))


def row_above(parts, paper):
    return are_rows_of(*parts) and above(*parts, paper)


def row_mixed(parts, paper):
    return are_rows_of(*parts) and under_mean(*parts, paper)


def rows_left(parts, paper):
    dim, weights, many, lists = parts
    if not is_dim(dim) or not is_row_of(weights, dim[0][1]) or not is_index(many, 5) or not is_paper_of(paper, many):
        return False
    marks = range(max(dim[1]) + 1)
    lots = [[at for at, own in enumerate(dim[1]) if own == mark] for mark in marks]
    ahead = [[tuple((0, 1) for _ in lots[mark])] for mark in marks]
    for stage in paper:
        if not is_paper_of(stage, len(lots)) or not all(is_paper_of(each, 3) for each in stage):
            return False
        told = []
        for mark, (rows, chances, odds) in enumerate(stage):
            sums = []
            for deed in range(deeds_of_mark(dim, mark)):
                for picked in product(*ahead):
                    worths = {at: number(own) for lot, each in zip(lots, picked) for at, own in zip(lot, each)}
                    sums.append(tuple(
                        pair(weighted_sum(weights, dim[0][2][at][deed][1]) + number(dim[0][0]) * mean(dim[0][2][at][deed][0], worths))
                        for at in lots[mark]
                    ))
            if len(sums) > 300 or type(rows) is not tuple or not all(is_row_of(each, len(lots[mark])) for each in rows):
                return False
            if [row(each) for each in rows] != sorted(row(each) for each in set(rows)) or not set(rows) <= set(sums):
                return False
            if not is_paper_of(chances, len(rows)) or not is_paper_of(odds, len(sums)):
                return False
            if not all(above(rows[:at] + rows[at + 1:], rows[at], chances[at]) for at in range(len(rows))):
                return False
            if not rows or not all(under_mean(rows, own, each) for own, each in zip(sums, odds)):
                return False
            told.append(rows)
        ahead = told
    if not is_paper_of(lists, len(lots)):
        return False
    if not all(type(each) is tuple and all(is_row_of(own, len(lot)) for own in each) for each, lot in zip(lists, lots)):
        return False
    return [list(each) for each in lists] == [list(each) for each in ahead]


def is_sight_bounded(parts):
    dim, start, bounds, many = parts
    return is_dim(dim) and is_start(dim[0], start) and is_bounds_of(dim[0], bounds) and is_index(many, 5)


def sight_kept(parts, paper):
    if not is_sight_bounded(parts) or not is_sight_mix(parts[0], parts[3], paper):
        return False
    dim, start, bounds, many = parts
    got = [Fraction(0)] * dim[0][1]
    for chance, lookout in paper:
        assert is_lookout(dim, many, lookout)
        for pay in range(dim[0][1]):
            own = [tree_number(dim, alone(dim[0][1], pay), lookout[dim[1][at]], at) for at in range(len(start))]
            got[pay] += number(chance) * sum(one * two for one, two in zip(row(start), own))
    return keeps(bounds, got)


def sight_not_kept(parts, paper):
    if not is_sight_bounded(parts) or not is_row_of(paper, parts[0][0][1]):
        return False
    dim, start, bounds, many = parts
    whole = wished(row(paper), bounds)
    return whole is not None and sight_best_of(dim, paper, many, row(start)) < whole


def reads(parts, paper):
    text, named = parts
    if type(text) is not str or not is_named(named) or paper != ():
        return False
    try:
        return read_house(text) == named
    except HouseError:
        return False


def is_play(parts):
    return steady(parts[0], parts[1]) and is_player(parts[0], parts[2])


def is_die(value):
    return is_plain_fraction(value) and 0 <= number(value) < 1


def is_way_of(house, value):
    if type(value) is not tuple or len(value) > 60:
        return False
    at = None
    for each in value:
        if not is_paper_of(each, 3) or not is_index(each[0], len(house[2])) or not is_index(each[1], len(house[2][each[0]])):
            return False
        if type(each[2]) is not int or each[2] not in [to for to, _ in house[2][each[0]][each[1]][0]] or at not in (None, each[0]):
            return False
        at = each[2]
    return True


def run(parts, paper):
    if not is_play(parts) or paper != ():
        return False
    house, start, player, dice, way = parts
    if type(dice) is not tuple or len(dice) % 2 == 0 or len(dice) > 121 or not all(is_die(die) for die in dice) or not is_way_of(house, way):
        return False
    if len(dice) != 1 + 2 * len(way):
        return False
    left = list(row(dice))

    def is_picked(chances, at):
        die = left.pop(0)
        return sum(chances[:at]) <= die < sum(chances[:at + 1])

    # Without a step the first die may pick any stand.
    if not way:
        return True
    if not is_picked(row(start), way[0][0]):
        return False
    history = (way[0][0],)
    for at, deed, to in way:
        if not is_picked(row(odds_after(player, history)), deed):
            return False
        chances = house[2][at][deed][0]
        if not is_picked([number(chance) for _, chance in chances], [own for own, _ in chances].index(to)):
            return False
        history += (deed, to)
    return True


def chance_by_hand(house, start, player, way):
    if not way:
        return Fraction(1)
    chance, history = number(start[way[0][0]]), (way[0][0],)
    for at, deed, to in way:
        chance *= number(odds_after(player, history)[deed]) * number(dict(house[2][at][deed][0])[to])
        history += (deed, to)
    return chance


def way(parts, paper):
    if not is_play(parts) or not is_way_of(parts[0], parts[3]) or not is_plain_fraction(parts[4]):
        return False
    return paper == () and chance_by_hand(*parts[:4]) == number(parts[4])


def are_ways(house, start, player, many, paper):
    if type(paper) is not tuple or not all(is_paper_of(each, 2) and is_way_of(house, each[0]) and is_plain_fraction(each[1]) for each in paper):
        return False
    told = [each[0] for each in paper]
    if told != sorted(set(told)) or any(len(each) != many for each in told):
        return False
    if any(number(chance) <= 0 or chance_by_hand(house, start, player, own) != number(chance) for own, chance in paper):
        return False
    return sum(number(chance) for _, chance in paper) == 1


def ways(parts, paper):
    if not is_play(parts) or not is_index(parts[3], 21) or not is_row_of(parts[4], parts[0][1]) or not are_ways(*parts[:4], paper):
        return False
    sums = [Fraction(0)] * parts[0][1]
    for own, chance in paper:
        sums = [one + number(chance) * two for one, two in zip(sums, gains_on(parts[0], own))]
    return sums == row(parts[4])


def player_pays_too(house, start, player):
    kind, plan = player
    if kind == "still":
        return plain_pays(house, start, plan)
    if kind == "minded":
        return row(minded_pays(house, start, plan))
    sums, share = [Fraction(0)] * house[1], number(house[0])
    behind = [Fraction(0)] * len(house[2])
    for history, chance in histories(house, start, player, 5):
        own = tuple(tuple(history[at:at + 3]) for at in range(0, len(history) - 1, 2))
        sums = [one + chance * two for one, two in zip(sums, gains_on(house, own))]
        behind[history[-1]] += chance
    rest = plain_pays(house, tuple(pair(each) for each in behind), plan[1])
    return [one + share ** 5 * two for one, two in zip(sums, rest)]


def brings(parts, paper):
    if not is_play(parts) or not is_row_of(parts[3], parts[0][1]):
        return False
    return paper == () and player_pays_too(*parts[:3]) == row(parts[3])


def same(parts, paper):
    if not is_play(parts) or not is_still(parts[0], parts[3]):
        return False
    return paper == () and player_pays_too(*parts[:3]) == plain_pays(parts[0], parts[1], parts[3])


def squares(house, start, player, many):
    """The sum, over deeds and ways on, of P times 1 - P times how often on the mean, step by step."""
    found = Fraction(0)
    held = {((at,), 0): number(chance) for at, chance in enumerate(start)}
    for step in range(many):
        later = {}
        for (history, mind), chance in held.items():
            at = history[-1]
            odds = player[1][1][at][mind] if player[0] == "minded" else odds_after(player, history)
            for deed, odd in enumerate(odds):
                turned = player[1][2][at][deed][mind] if player[0] == "minded" else 0
                for to, own in house[2][at][deed][0]:
                    part = chance * number(odd) * number(own)
                    found += part * (1 - number(own))
                    key = (history + (deed, to) if player[0] == "told" and step < 5 else (None, to)), turned
                    later[key] = later.get(key, Fraction(0)) + part
        held = later
    return found


def missed(parts, paper):
    if not is_play(parts) or not is_index(parts[3], 61) or not all(is_plain_fraction(each) for each in parts[4:]) or number(parts[4]) <= 0:
        return False
    house, start, player, many, allowance, told = parts
    if paper == ():
        return squares(house, start, player, many) / number(allowance) ** 2 <= number(told)
    if many > 20 or not are_ways(house, start, player, many, paper):
        return False
    whole = Fraction(0)
    for own, chance in paper:
        is_off = False
        for at, stand in enumerate(house[2]):
            for deed, (chances, _) in enumerate(stand):
                came = [to for one, two, to in own if (one, two) == (at, deed)]
                is_off = is_off or any(abs(came.count(to) - number(each) * len(came)) > number(allowance) for to, each in chances)
        whole += number(chance) * is_off
    return whole <= number(told)


# For each word the judge and how many elements stand behind it.
WORDS = {
    "pays": (pays, 4), "minded": (minded, 4), "best": (best, 3), "kept": (kept, 3), "not kept": (not_kept, 3), "most": (most, 5),
    "mixed": (mixed, 4), "in": (inside, 3), "out": (outside, 3), "comes": (comes, 4), "comes not": (comes_not, 4),
    "always comes": (always_comes, 4), "comes less": (comes_less, 4), "timed": (timed, 4), "fits": (fits, 2),
    "never below": (never_below, 4), "once below": (once_below, 5), "safe": (safe, 4), "unsafe": (unsafe, 4),
    "surely keeps": (surely_keeps, 4), "keeps not surely": (keeps_not_surely, 4), "surely better": (surely_better, 5),
    "once worse": (once_worse, 5), "stays": (stays, 6), "stays not": (stays_not, 6), "sight best": (sight_best, 5),
    "row above": (row_above, 2), "row mixed": (row_mixed, 2), "rows left": (rows_left, 4), "sight kept": (sight_kept, 4),
    "sight not kept": (sight_not_kept, 4), "reads": (reads, 2), "run": (run, 5), "way": (way, 5), "ways": (ways, 5),
    "brings": (brings, 4), "same": (same, 4), "missed": (missed, 6),
}


def judged(claim, paper):
    """Whether the paper is one for the claim."""
    if type(claim) is not tuple or not claim or type(claim[0]) is not str or claim[0] not in WORDS:
        return False
    judge, many = WORDS[claim[0]]
    return len(claim) == 1 + many and bool(judge(claim[1:], paper))
