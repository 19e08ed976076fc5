"""The claims on houses known in part, and on how far a gain may move: whether a paper is one for a claim.

Each judge is passed what stands behind a claim's word, and the paper; both may be any values.
"""

from deedhouses.best import choice_worths, deed_worth, gap_rows, is_bettered
from deedhouses.better import corner_picks
from deedhouses.bounds import are_bounds, bounded_pays
from deedhouses.houses import is_house
from deedhouses.moves import raised
from deedhouses.plans import fits_choice, fits_still, plain_odds, plain_plan
from deedhouses.ratios import NOUGHT, ONE, are_odds, dot, is_below, is_fraction, is_row, is_tuple, is_within
from deedhouses.stretches import count_corners, does_fit, is_vague
from deedhouses.worst import least_brought


def is_deed(house, stand, deed):
    """Whether any values are an index of a stand of a house, or vague house, and of a deed of it."""
    return is_within(stand, 0, len(house[2]) - 1) and is_within(deed, 0, len(house[2][stand]) - 1)


def is_weighed(parts):
    """Whether a tuple of two parts or more begins with a vague house and weights for it."""
    return is_vague(parts[0]) and is_row(parts[1], parts[0][1])


def is_below_none(worths, others):
    """Whether a row is nowhere below another one."""
    return not any([is_below(one, two) for one, two in zip(worths, others)])


def down(vague, weights, still, worths):
    """For each stand what the plan makes of the worths at least."""
    share = vague[0]
    made = []
    for stand, odds in zip(vague[2], still):
        made.append(dot(odds, [least_brought(share, weights, worths, deed) for deed in stand]))
    return made


def forth(house, weights, still, worths):
    """For each stand what the plan makes of the worths in a house."""
    made = []
    for stand, odds in zip(house[2], still):
        made.append(dot(odds, [deed_worth(house[0], weights, worths, deed) for deed in stand]))
    return made


def is_floor(vague, weights, still, worths):
    """Whether any value is worths nowhere above what the plan makes of them at least."""
    return is_row(worths, len(vague[2])) and is_below_none(down(vague, weights, still, worths), worths)


def is_roof(vague, weights, still, house, worths):
    """Whether any values are a house that fits, and worths nowhere below what the plan makes of them there."""
    if not does_fit(vague, house) or not is_row(worths, len(vague[2])):
        return False
    return is_below_none(worths, forth(house, weights, still, worths))


def judge_fits(parts, paper):
    """The house fits."""
    return is_tuple(parts, 2) and is_vague(parts[0]) and paper == () and does_fit(parts[0], parts[1])


def judge_never_below(parts, paper):
    """The plan's worths are nowhere below these in all houses that fit: the paper is between."""
    if not is_tuple(parts, 4) or not is_weighed(parts):
        return False
    vague, weights, still, worths = parts
    if not fits_still(vague, still) or not is_row(worths, len(vague[2])):
        return False
    return is_floor(vague, weights, still, paper) and is_below_none(paper, worths)


def judge_once_below(parts, paper):
    """The plan's worth at a stand is below the number in some house that fits: in this one."""
    if not is_tuple(parts, 5) or not is_weighed(parts) or not is_tuple(paper, 2):
        return False
    vague, weights, still, stand, number = parts
    if not fits_still(vague, still) or not is_within(stand, 0, len(still) - 1) or not is_fraction(number):
        return False
    house, worths = paper
    return is_roof(vague, weights, still, house, worths) and is_below(worths[stand], number)


def is_safety(parts):
    """Whether any value is a vague house, weights, a start and a number."""
    if not is_tuple(parts, 4) or not is_weighed(parts):
        return False
    return are_odds(parts[2], len(parts[0][2])) and is_fraction(parts[3])


def judge_safe(parts, paper):
    """Some plan brings at least the number in every house that fits: this choice does."""
    if not is_safety(parts) or not is_tuple(paper, 2):
        return False
    vague, weights, start, number = parts
    choice, worths = paper
    if not fits_choice(vague, choice) or not is_floor(vague, weights, plain_plan(vague, choice), worths):
        return False
    return not is_below(dot(start, worths), number)


def judge_unsafe(parts, paper):
    """In some house that fits every plan brings less: in this one no deed betters the worths."""
    if not is_safety(parts) or not is_tuple(paper, 2):
        return False
    vague, weights, start, number = parts
    house, worths = paper
    if not does_fit(vague, house) or not is_row(worths, len(start)) or is_bettered(house, weights, worths):
        return False
    return is_below(dot(start, worths), number)


def is_bounded(parts):
    """Whether any value is a vague house, a start, bounds and a still plan."""
    if not is_tuple(parts, 4) or not is_vague(parts[0]):
        return False
    vague, start, bounds, still = parts
    return are_odds(start, len(vague[2])) and are_bounds(vague, bounds) and fits_still(vague, still)


def judge_surely_keeps(parts, paper):
    """The plan keeps the bounds in every house that fits: a row for each pay with a bound shows it."""
    if not is_bounded(parts):
        return False
    vague, start, bounds, still = parts
    asked = bounded_pays(bounds)
    if not is_tuple(paper, len(asked)):
        return False
    for pay, worths in zip(asked, paper):
        if not is_floor(vague, plain_odds(pay, vague[1]), still, worths) or is_below(dot(start, worths), bounds[pay]):
            return False
    return True


def judge_keeps_not_surely(parts, paper):
    """The plan does not keep the bounds in some house that fits: this pay is below its bound in this one."""
    if not is_bounded(parts) or not is_tuple(paper, 3):
        return False
    vague, start, bounds, still = parts
    pay, house, worths = paper
    if not is_within(pay, 0, vague[1] - 1) or bounds[pay] is None:
        return False
    weights = plain_odds(pay, vague[1])
    return is_roof(vague, weights, still, house, worths) and is_below(dot(start, worths), bounds[pay])


def is_changed(parts):
    """Whether any value is a vague house, weights, a choice, a stand and a deed that the choice does not do there."""
    if not is_tuple(parts, 5) or not is_weighed(parts):
        return False
    vague, _, choice, stand, deed = parts
    return fits_choice(vague, choice) and is_deed(vague, stand, deed) and deed != choice[stand]


def is_answer(share, weights, deeds, worths):
    """Whether any value is the worths of a plan that does these deeds, one at each stand."""
    if not is_row(worths, len(deeds)):
        return False
    return all([deed_worth(share, weights, worths, deed) == worth for deed, worth in zip(deeds, worths)])


def done_deeds(house, choice):
    """The deed that the choice does, for each stand."""
    return [stand[deed] for stand, deed in zip(house[2], choice)]


def judge_surely_better(parts, paper):
    """The changed deed is nowhere worse in every house that fits: the worths in each corner house show it."""
    if not is_changed(parts) or not isinstance(paper, tuple):
        return False
    vague, weights, choice, stand, deed = parts
    # There may be very many corner houses: they are told only if the paper is as long.
    if count_corners(vague, choice) != len(paper):
        return False
    gains = [each[1] for each in done_deeds(vague, choice)]
    for rows, worths in zip(corner_picks(vague, choice), paper):
        if not is_answer(vague[0], weights, list(zip(rows, gains)), worths):
            return False
        if is_below(least_brought(vague[0], weights, worths, vague[2][stand][deed]), worths[stand]):
            return False
    return True


def judge_once_worse(parts, paper):
    """The changed deed is worse in some house that fits: in this one, in which these are the plan's worths."""
    if not is_changed(parts) or not is_tuple(paper, 2) or not does_fit(parts[0], paper[0]):
        return False
    _, weights, choice, stand, deed = parts
    house, worths = paper
    if not is_answer(house[0], weights, done_deeds(house, choice), worths):
        return False
    return is_below(deed_worth(house[0], weights, worths, house[2][stand][deed]), worths[stand])


def is_moved(parts):
    """Whether any value is a house, weights, a best plan of it, a stand, a deed of it and a number."""
    if not is_tuple(parts, 6) or not is_house(parts[0]) or not is_row(parts[1], parts[0][1]):
        return False
    house, weights, choice, stand, deed, number = parts
    if not fits_choice(house, choice) or not is_deed(house, stand, deed) or not is_fraction(number):
        return False
    return not is_bettered(house, weights, choice_worths(house, weights, choice))


def moved_gaps(parts, worths):
    """The gaps of the changed house beside the worths, any value; None if they are not the plan's worths there."""
    house, weights, choice, stand, deed, number = parts
    changed = raised(house, weights, stand, deed, number)
    if not is_answer(changed[0], (ONE,), done_deeds(changed, choice), worths):
        return None
    return gap_rows(changed, (ONE,), worths)


def judge_stays(parts, paper):
    """The choice is a best plan of the changed house, too: no deed betters its worths there."""
    gaps = moved_gaps(parts, paper) if is_moved(parts) else None
    return gaps is not None and not any([is_below(gap, NOUGHT) for row in gaps for gap in row])


def judge_stays_not(parts, paper):
    """The choice is no best plan of the changed house: this deed betters its worths there."""
    if not is_moved(parts) or not is_tuple(paper, 3) or not is_deed(parts[0], paper[1], paper[2]):
        return False
    gaps = moved_gaps(parts, paper[0])
    return gaps is not None and is_below(gaps[paper[1]][paper[2]], NOUGHT)


JUDGES = {
    "fits": judge_fits,
    "never below": judge_never_below,
    "once below": judge_once_below,
    "safe": judge_safe,
    "unsafe": judge_unsafe,
    "surely keeps": judge_surely_keeps,
    "keeps not surely": judge_keeps_not_surely,
    "surely better": judge_surely_better,
    "once worse": judge_once_worse,
    "stays": judge_stays,
    "stays not": judge_stays_not,
}


def accepts_on_vague(claim, paper):
    """Whether the paper is one for the claim, if that has a word of this file."""
    judge = JUDGES.get(claim[0])
    return judge is not None and judge(claim[1:], paper)
