"""The claims on sight in part: whether a paper is one for a claim.

Each judge is passed what stands behind a claim's word, and the paper; both may be any values.
"""

from deedhouses.bounds import are_bounds, are_kept, is_weight, numbers_of
from deedhouses.mixes import mean_pays
from deedhouses.outlooks import best_brought
from deedhouses.ratios import NOUGHT, are_odds, column, common_bottom, dot, is_below, is_fraction, is_row, is_tuple
from deedhouses.ratios import is_within, scaled
from deedhouses.sightbest import are_rows, deed_sums, first_too_many
from deedhouses.sightbounds import fits_sight_mix
from deedhouses.sights import count_marks, is_dim, pays_of_lookout, stands_of


def judge_sight_best(parts, paper):
    """The best lookout brings the number, and no sight plan whatever more."""
    if not is_tuple(parts, 5) or not is_dim(parts[0]):
        return False
    dim, start, weights, many, number = parts
    if not are_odds(start, len(dim[1])) or not is_row(weights, dim[0][1]) or not is_within(many, 0, 4):
        return False
    return is_fraction(number) and paper == () and best_brought(dim, weights, many, start)[0] == number


def are_parted(parts):
    """Whether any value is rows, and a row of as many fractions."""
    return is_tuple(parts, 2) and are_rows(parts[0]) and is_row(parts[1], len(parts[0][0]))


def is_above_all(chances, rows, row):
    """Whether any value is chances from which the row is above each of the rows."""
    if not are_odds(chances, len(row)):
        return False
    own = dot(chances, row)
    return all([is_below(dot(chances, each), own) for each in rows])


def is_mean_above(odds, rows, row):
    """Whether any value is odds of the rows, the mean of which is nowhere below the row."""
    if not are_odds(odds, len(rows)):
        return False
    return not any([is_below(dot(odds, column(rows, at)), number) for at, number in enumerate(row)])


def judge_row_above(parts, paper):
    """From some chances the row is above each of the rows: from these."""
    return are_parted(parts) and is_above_all(paper, parts[0], parts[1])


def judge_row_mixed(parts, paper):
    """A mean of the rows is nowhere below the row: by these odds."""
    return are_parted(parts) and is_mean_above(paper, parts[0], parts[1])


def judge_rows_left(parts, paper):
    """The lists are the rows left: the stages show it, step by step."""
    if not is_tuple(parts, 4) or not is_dim(parts[0]) or not is_row(parts[1], parts[0][0][1]):
        return False
    dim, weights, many, lists = parts
    if not is_within(many, 0, 4) or not are_lists(dim, lists) or not is_tuple(paper, many):
        return False
    rows = [((NOUGHT,) * len(stands_of(dim, mark)),) for mark in range(count_marks(dim))]
    for stage in paper:
        if first_too_many(dim, rows) is not None or not is_stage(dim, weights, rows, stage):
            return False
        rows = [told for told, _, _ in stage]
    return tuple(rows) == lists


def are_lists(dim, value):
    """Whether any value is, for each mark, an ascending tuple of rows of a fraction for each of its stands."""
    if not is_tuple(value, count_marks(dim)):
        return False
    return all([are_ascending_rows(rows, len(stands_of(dim, mark))) for mark, rows in enumerate(value)])


def are_ascending_rows(value, many):
    """Whether any value is an ascending tuple of rows of so many fractions."""
    if not isinstance(value, tuple) or not all([is_row(row, many) for row in value]):
        return False
    # Over one divisor rows are compared as whole numbers.
    bottom = common_bottom([number for row in value for number in row])
    wholes = [scaled(row, bottom) for row in value]
    return all([one < two for one, two in zip(wholes, wholes[1:])])


def is_stage(dim, weights, lists, value):
    """Whether any value tells the rows left for one step more than these are for, and shows it for each mark."""
    if not is_tuple(value, len(lists)) or not all([is_tuple(each, 3) for each in value]):
        return False
    return all([is_left(deed_sums(dim, weights, mark, lists), each) for mark, each in enumerate(value)])


def is_left(sums, triple):
    """Whether any three values show that the first ones are the rows left of the sums."""
    rows, chances, odds = triple
    if not are_ascending_rows(rows, len(sums[0])) or not all([row in sums for row in rows]):
        return False
    if not is_tuple(chances, len(rows)) or not is_tuple(odds, len(sums)):
        return False
    for at, row in enumerate(rows):
        if not is_above_all(chances[at], rows[:at] + rows[at + 1:], row):
            return False
    return all([is_mean_above(own, rows, row) for own, row in zip(odds, sums)])


def is_sight_wished(parts):
    """Whether any value is a dim house, a start, bounds and a number of steps."""
    if not is_tuple(parts, 4) or not is_dim(parts[0]):
        return False
    dim, start, bounds, many = parts
    return are_odds(start, len(dim[1])) and are_bounds(dim[0], bounds) and is_within(many, 0, 4)


def judge_sight_kept(parts, paper):
    """Some sight plan keeps the bounds: this mix of lookouts does."""
    if not is_sight_wished(parts):
        return False
    dim, start, bounds, many = parts
    if not fits_sight_mix(dim, many, paper):
        return False
    return are_kept(bounds, mean_pays(paper, [pays_of_lookout(dim, start, lookout) for _, lookout in paper]))


def judge_sight_not_kept(parts, paper):
    """No sight plan whatever keeps the bounds: the best by sight for these weights is too small."""
    if not is_sight_wished(parts) or not is_row(paper, parts[0][0][1]):
        return False
    dim, start, bounds, many = parts
    if not all([is_weight(weight, bound) for weight, bound in zip(paper, bounds)]):
        return False
    return is_below(best_brought(dim, paper, many, start)[0], dot(paper, numbers_of(bounds)))


JUDGES = {
    "sight best": judge_sight_best,
    "row above": judge_row_above,
    "row mixed": judge_row_mixed,
    "rows left": judge_rows_left,
    "sight kept": judge_sight_kept,
    "sight not kept": judge_sight_not_kept,
}


def accepts_on_sights(claim, paper):
    """Whether the paper is one for the claim, if that has a word of this file."""
    judge = JUDGES.get(claim[0])
    return judge is not None and judge(claim[1:], paper)
