"""Sight in part: the best by sight, and the rows of trees that are left."""

from deedhouses.errors import InvalidRow, InvalidRows, TooMany
from deedhouses.houses import check_number, check_start, check_weights
from deedhouses.outlooks import best_brought
from deedhouses.ratios import NOUGHT, ONE, common_bottom, is_row, is_within, over, scaled, total
from deedhouses.sights import check_dim, check_hold, check_mark, count_deeds, count_marks, stands_of, sum_row
from deedhouses.tableaus import greatest_corner


def best_left(dim, weights, mark, many, hold):
    """The best with so many steps left from the hold, and a tree that brings it."""
    check_dim(dim)
    check_weights(dim[0], weights)
    check_mark(dim, mark)
    check_number(many, 0, 4)
    check_hold(dim, mark, hold)
    greatest, lookout = best_brought(dim, weights, many, hold)
    return greatest, lookout[mark]


def best_lookout(dim, start, weights, many):
    """What the best lookout for so many steps brings from the start, and such a lookout."""
    check_dim(dim)
    check_start(dim[0], start)
    check_weights(dim[0], weights)
    check_number(many, 0, 4)
    return best_brought(dim, weights, many, start)


def rows_left(dim, weights, many):
    """For each mark the ascending tuple of the pairs of a row left and a tree with it."""
    check_dim(dim)
    check_weights(dim[0], weights)
    check_number(many, 0, 4)
    return tuple([tuple(pairs) for pairs in left_stages(dim, weights, many)[-1]])


def left_stages(dim, weights, many):
    """For 0 up to so many steps the lists of the rows left and their trees, one for each mark."""
    stages = [[[((NOUGHT,) * len(stands_of(dim, mark)), ())] for mark in range(count_marks(dim))]]
    for _ in range(many):
        stages.append(lists_ahead(dim, weights, stages[-1]))
    return stages


def lists_ahead(dim, weights, lists):
    """The lists of rows left for one step more, made of these; TooMany for more than 300 sums."""
    many = first_too_many(dim, lists)
    if many is not None:
        raise TooMany(many)
    return [left_pairs(tree_sums(dim, weights, mark, lists)) for mark in range(len(lists))]


def first_too_many(dim, lists):
    """Of the marks' numbers of sums of the lists the first one above 300; None."""
    picks = 1
    for rows in lists:
        picks = picks * len(rows)
    for mark in range(len(lists)):
        many = picks * count_deeds(dim, mark)
        if many > 300:
            return many
    return None


def all_picks(lists):
    """One of each list, in all ways: the last list's turn fastest."""
    picks = [()]
    for rows in lists:
        picks = [pick + (row,) for pick in picks for row in rows]
    return picks


def deed_sums(dim, weights, mark, lists):
    """The row of each sum of a deed of the mark and of rows behind it, one for each mark, in order."""
    picks = all_picks(lists)
    return [sum_row(dim, weights, mark, deed, pick) for deed in range(count_deeds(dim, mark)) for pick in picks]


def tree_sums(dim, weights, mark, lists):
    """The rows of all sums of a deed of the mark and rows left behind it, each with a tree that has it."""
    picks = all_picks([[tree for _, tree in pairs] for pairs in lists])
    trees = [(deed, pick) for deed in range(count_deeds(dim, mark)) for pick in picks]
    sums = {}
    for row, tree in zip(deed_sums(dim, weights, mark, rows_of(lists)), trees):
        if row not in sums:
            sums[row] = tree
    return sums


def rows_of(lists):
    """The lists of rows, without their trees."""
    return [[row for row, _ in pairs] for pairs in lists]


def left_pairs(sums):
    """The ascending pairs of the rows that are alone the greatest from some hold, and their trees."""
    return [(row, sums[row]) for row in alone_greatest(list(sums))]


def alone_greatest(rows):
    """Of different rows those that are alone the greatest from some hold, ascending."""
    bottom = common_bottom([number for row in rows for number in row])
    # Over one divisor rows are compared as whole numbers.
    rest = sorted([(tuple(scaled(row, bottom)), row) for row in rows])
    kept = [rest.pop()]
    while rest:
        told, chances = parting([row for _, row in kept], rest[-1][1])
        if told == "above":
            kept.append(rest.pop(farthest_index(rest, chances)))
        else:
            rest.pop()
    return [row for _, row in sorted(kept)]


def farthest_index(rest, chances):
    """The index of the row that is the greatest from these chances; of like ones that of the greatest row.

    That one is alone the greatest from a hold near by, which has a little more of the first stand, and
    a little of this little more of the second one, and so on.
    """
    parts = scaled(chances, common_bottom(chances))
    sums = [sum([part * each for part, each in zip(parts, wholes)]) for wholes, _ in rest]
    return max([(each, at) for at, each in enumerate(sums)])[1]


def parted(rows, row):
    """("above", CHANCES) from which ROW is above each of ROWS, or ("mixed", ODDS) of a mean nowhere below it."""
    check_rows(rows)
    if not is_row(row, len(rows[0])):
        raise InvalidRow(row)
    return parting(rows, row)


def parting(rows, row):
    """What parts a row from others, or mixes them, where both arguments are known to be right."""
    many = len(row)
    columns = [list(each) + [ONE] for each in rows]
    # What the mean has above the row is a number from 0 on of its own at each place.
    for at in range(many):
        columns.append([(-1, 1) if place == at else NOUGHT for place in range(many)] + [NOUGHT])
    found = greatest_corner(columns, list(row) + [ONE], [NOUGHT] * len(columns))
    if found[0] == "found":
        return "mixed", tuple(found[1][:len(rows)])
    prices = found[1][:many]
    whole = total(prices)
    return "above", tuple([over(price, whole) for price in prices])


def are_rows(value):
    """Whether any value is a tuple of 1 to 60 rows of 1 to 8 fractions, all of one length."""
    return is_lot(value) and wrong_row(value) is None


def is_lot(value):
    """Whether any value is a tuple of 1 to 60 elements."""
    return isinstance(value, tuple) and is_within(len(value), 1, 60)


def wrong_row(rows):
    """The index of the first element that is no row of 1 to 8 fractions, as many as the first one has; None."""
    for at, row in enumerate(rows):
        if not isinstance(row, tuple) or not is_within(len(row), 1, 8) or not is_row(row, len(rows[0])):
            return at
    return None


def check_rows(rows):
    """Raises InvalidRows for no tuple of rows as told."""
    if not is_lot(rows):
        raise InvalidRows(None)
    at = wrong_row(rows)
    if at is not None:
        raise InvalidRows(at)
