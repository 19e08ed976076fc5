"""The claims on houses, plans, one pay and several ones, and goals: whether a paper is one for a claim.

Each judge is passed what stands behind a claim's word, and the paper; both may be any values.
"""

from deedhouses.best import gap_rows, is_bettered
from deedhouses.bounds import are_bounds, are_kept, fits_reason, is_weight, numbers_of
from deedhouses.chains import chain_counts, counted_pays, minded_chain, minded_start
from deedhouses.goals import chances_of, fits_goals, leads_to
from deedhouses.houses import is_house, mean_behind
from deedhouses.mixes import fits_mix, mean_pays
from deedhouses.plans import fits_choice, fits_minded, fits_still, plain_plan
from deedhouses.ratios import NOUGHT, ONE, are_odds, dot, is_below, is_fraction, is_row, is_tuple, is_whole
from deedhouses.ratios import is_within, minus
from deedhouses.timed import timed_stages
from deedhouses.worths import pays_from


def is_begun(house, start):
    """Whether any values are a house and a start of it."""
    return is_house(house) and are_odds(start, len(house[2]))


def judge_pays(parts, paper):
    """The plan has these pays."""
    if not is_tuple(parts, 4) or not is_begun(parts[0], parts[1]):
        return False
    house, start, still, pays = parts
    if not fits_still(house, still) or not is_row(pays, house[1]):
        return False
    return paper == () and pays_from(house, start, still) == pays


def judge_minded(parts, paper):
    """The still plan has the minded plan's pays."""
    if not is_tuple(parts, 4) or not is_begun(parts[0], parts[1]):
        return False
    house, start, minded, still = parts
    if not fits_minded(house, minded) or not fits_still(house, still) or paper != ():
        return False
    chain = minded_chain(house, minded)
    return counted_pays(chain, chain_counts(chain, minded_start(start, minded[0]))) == pays_from(house, start, still)


def judge_best(parts, paper):
    """These are the best worths: the choice has them, and no deed betters them."""
    if not is_tuple(parts, 3) or not is_house(parts[0]):
        return False
    house, weights, worths = parts
    if not is_row(weights, house[1]) or not is_row(worths, len(house[2])) or not fits_choice(house, paper):
        return False
    gaps = gap_rows(house, weights, worths)
    return all([row[deed] == NOUGHT for row, deed in zip(gaps, paper)]) and not is_bettered(house, weights, worths)


def is_wished(parts):
    """Whether any value is a house, a start and bounds."""
    return is_tuple(parts, 3) and is_begun(parts[0], parts[1]) and are_bounds(parts[0], parts[2])


def judge_kept(parts, paper):
    """Some plan keeps the bounds: this one does."""
    if not is_wished(parts):
        return False
    house, start, bounds = parts
    return fits_still(house, paper) and are_kept(bounds, pays_from(house, start, paper))


def judge_not_kept(parts, paper):
    """No plan whatever keeps the bounds: there is a reason."""
    return is_wished(parts) and fits_reason(parts[0], parts[1], parts[2], paper)


def judge_most(parts, paper):
    """The number is the greatest of the pay: a plan reaches it, and weights and worths show that none has more."""
    if not is_tuple(parts, 5) or not is_wished(parts[:3]):
        return False
    house, start, bounds, pay, number = parts
    if not is_within(pay, 0, house[1] - 1) or not is_fraction(number) or not is_tuple(paper, 3):
        return False
    still, weights, worths = paper
    if not fits_still(house, still) or not is_row(weights, house[1]) or not is_row(worths, len(house[2])):
        return False
    pays = pays_from(house, start, still)
    if not are_kept(bounds, pays) or pays[pay] != number or is_bettered(house, weights, worths):
        return False
    rest = weights[:pay] + (minus(weights[pay], ONE),) + weights[pay + 1:]
    if not all([is_weight(weight, bound) for weight, bound in zip(rest, bounds)]):
        return False
    return minus(dot(start, worths), dot(rest, numbers_of(bounds))) == number


def judge_mixed(parts, paper):
    """The mix has the still plan's pays."""
    if not is_tuple(parts, 4) or not is_begun(parts[0], parts[1]):
        return False
    house, start, still, mix = parts
    if not fits_still(house, still) or not fits_mix(house, mix) or paper != ():
        return False
    rows = [pays_from(house, start, plain_plan(house, choice)) for _, choice in mix]
    return mean_pays(mix, rows) == pays_from(house, start, still)


def is_placed(parts):
    """Whether any value is a house of two pays, a start and a pair of fractions."""
    return is_tuple(parts, 3) and is_begun(parts[0], parts[1]) and parts[0][1] == 2 and is_row(parts[2], 2)


def judge_in(parts, paper):
    """The pair lies in the polygon: this plan has just these pays."""
    return is_placed(parts) and fits_still(parts[0], paper) and pays_from(parts[0], parts[1], paper) == parts[2]


def judge_out(parts, paper):
    """The pair does not lie in the polygon: weights and worths show it."""
    if not is_placed(parts) or not is_tuple(paper, 2):
        return False
    house, start, pair = parts
    weights, worths = paper
    if not is_row(weights, 2) or not is_row(worths, len(house[2])) or is_bettered(house, weights, worths):
        return False
    return is_below(dot(start, worths), dot(weights, pair))


def is_aimed(parts):
    """Whether any value is a house, goals, a stand and a number."""
    if not is_tuple(parts, 4) or not is_house(parts[0]) or not fits_goals(parts[0], parts[1]):
        return False
    return is_within(parts[2], 0, len(parts[0][2]) - 1) and is_fraction(parts[3])


def judge_comes(parts, paper):
    """Some plan comes with at least this chance: this choice does."""
    if not is_aimed(parts):
        return False
    house, goals, stand, number = parts
    return fits_choice(house, paper) and not is_below(chances_of(house, goals, paper)[stand], number)


def judge_comes_less(parts, paper):
    """Some plan comes with less than this chance: this choice does."""
    if not is_aimed(parts):
        return False
    house, goals, stand, number = parts
    return fits_choice(house, paper) and is_below(chances_of(house, goals, paper)[stand], number)


def judge_comes_not(parts, paper):
    """Every plan comes with less: the paper is nowhere below what any deed makes of it, and below at the stand."""
    if not is_aimed(parts):
        return False
    house, goals, stand, number = parts
    if not is_row(paper, len(house[2])) or not is_below(paper[stand], number):
        return False
    for at, worth in enumerate(paper):
        floors = [ONE] if at in goals else [NOUGHT] + means_behind(house, at, paper)
        if any([is_below(worth, floor) for floor in floors]):
            return False
    return True


def means_behind(house, stand, worths):
    """The mean of the worths behind each deed of the stand."""
    return [mean_behind(chances, worths) for chances, _ in house[2][stand]]


def judge_always_comes(parts, paper):
    """Every plan comes with at least this chance: worths and ranks show it."""
    if not is_aimed(parts) or not is_tuple(paper, 2):
        return False
    house, goals, stand, number = parts
    worths, ranks = paper
    if not is_row(worths, len(house[2])) or not is_tuple(ranks, len(house[2])):
        return False
    if not all([is_whole(rank) and rank >= 0 for rank in ranks]) or is_below(worths[stand], number):
        return False
    return all([is_left_surely(house, goals, worths, ranks, at) for at in range(len(worths))])


def is_left_surely(house, goals, worths, ranks, at):
    """Whether a stand's worth and rank are as they must be beside those of the others."""
    if at in goals:
        return not is_below(ONE, worths[at])
    if ranks[at] == 0:
        return not is_below(NOUGHT, worths[at])
    if any([is_below(mean, worths[at]) for mean in means_behind(house, at, worths)]):
        return False
    nearer = [to for to, rank in enumerate(ranks) if to in goals or rank < ranks[at]]
    return all([leads_to(chances, nearer) for chances, _ in house[2][at]])


def judge_timed(parts, paper):
    """These are the worths with so many steps left."""
    if not is_tuple(parts, 4) or not is_house(parts[0]):
        return False
    house, weights, many, worths = parts
    if not is_row(weights, house[1]) or not is_within(many, 0, 30) or not is_row(worths, len(house[2])):
        return False
    return paper == () and timed_stages(house, weights, many)[-1][0] == worths


JUDGES = {
    "pays": judge_pays,
    "minded": judge_minded,
    "best": judge_best,
    "kept": judge_kept,
    "not kept": judge_not_kept,
    "most": judge_most,
    "mixed": judge_mixed,
    "in": judge_in,
    "out": judge_out,
    "comes": judge_comes,
    "comes not": judge_comes_not,
    "always comes": judge_always_comes,
    "comes less": judge_comes_less,
    "timed": judge_timed,
}


def accepts_on_houses(claim, paper):
    """Whether the paper is one for the claim, if that has a word of this file."""
    judge = JUDGES.get(claim[0])
    return judge is not None and judge(claim[1:], paper)
