"""Claims on sight in part with papers for them."""

from deedhouses.houses import check_number, check_weights
from deedhouses.plans import plain_odds
from deedhouses.ratios import is_below
from deedhouses.sightbest import best_lookout, deed_sums, left_stages, parted, parting, rows_of
from deedhouses.sightbounds import sight_keep
from deedhouses.sights import check_dim, stands_of


def certify_sight_best(dim, start, weights, many):
    """What the best lookout brings."""
    number, _ = best_lookout(dim, start, weights, many)
    return ("sight best", dim, start, weights, many, number), ()


def certify_parted(rows, row):
    """Whether the row is above each of the rows from some chances."""
    told, paper = parted(rows, row)
    return ("row " + told, rows, row), paper


def certify_rows_left(dim, weights, many):
    """What the rows left are."""
    check_dim(dim)
    check_weights(dim[0], weights)
    check_number(many, 0, 4)
    stages = [rows_of(lists) for lists in left_stages(dim, weights, many)]
    paper = [stage_of(dim, weights, ahead, lists) for ahead, lists in zip(stages, stages[1:])]
    return ("rows left", dim, weights, many, tuple([tuple(rows) for rows in stages[-1]])), tuple(paper)


def stage_of(dim, weights, ahead, lists):
    """For each mark (ROWS, CHANCES, ODDS) of the lists of rows left, made of those of one step less."""
    stage = []
    for mark, rows in enumerate(lists):
        many = len(stands_of(dim, mark))
        chances = [chances_above(rows[:at] + rows[at + 1:], row, many) for at, row in enumerate(rows)]
        odds = [odds_above(rows, row) for row in deed_sums(dim, weights, mark, ahead)]
        stage.append((tuple(rows), tuple(chances), tuple(odds)))
    return tuple(stage)


def chances_above(others, row, many):
    """Chances from which the row is above all others."""
    return parting(others, row)[1] if others else plain_odds(0, many)


def odds_above(rows, row):
    """Odds of the rows the mean of which is nowhere below the row: of one alone where that is enough."""
    for at, each in enumerate(rows):
        if not any([is_below(one, two) for one, two in zip(each, row)]):
            return plain_odds(at, len(rows))
    return parting(rows, row)[1]


def certify_sight_keep(dim, start, bounds, many):
    """Whether some sight plan keeps the bounds in so many steps."""
    told, paper = sight_keep(dim, start, bounds, many)
    return ("sight " + told, dim, start, bounds, many), paper
