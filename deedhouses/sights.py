"""Sight in part: dim houses, trees and lookouts, holds, and what trees bring."""

from deedhouses.best import deed_worth
from deedhouses.errors import InvalidDim, InvalidHold, InvalidLookout, InvalidTree
from deedhouses.houses import check_number, check_start, check_weights, is_house
from deedhouses.plans import plain_odds
from deedhouses.ratios import NOUGHT, dot, is_from_nought, is_tuple, is_within, plus, times


def is_dim(value):
    """Whether any value is a dim house."""
    if not is_tuple(value, 2) or not is_house(value[0]):
        return False
    stands, marks = value[0][2], value[1]
    if not is_tuple(marks, len(stands)) or not all([is_within(mark, 0, 2) for mark in marks]):
        return False
    if any([mark not in marks for mark in range(max(marks))]):
        return False
    return all([len(stand) == count_deeds(value, mark) for stand, mark in zip(stands, marks)])


def count_marks(dim):
    """How many marks there are."""
    return 1 + max(dim[1])


def count_deeds(dim, mark):
    """How many deeds of the mark there are."""
    return len(dim[0][2][dim[1].index(mark)])


def stands_of(dim, mark):
    """The indexes of the mark's stands, ascending."""
    return [at for at, own in enumerate(dim[1]) if own == mark]


def is_tree(dim, mark, many, value):
    """Whether any value is a tree for the mark and so many steps."""
    check_dim(dim)
    check_mark(dim, mark)
    check_number(many, 0, 4)
    return fits_tree(dim, mark, many, value)


def fits_tree(dim, mark, many, value):
    """Whether any value is a tree, where the other arguments are known to be right."""
    if many == 0:
        return is_tuple(value, 0)
    if not is_tuple(value, 2) or not is_within(value[0], 0, count_deeds(dim, mark) - 1):
        return False
    return fits_lookout(dim, many - 1, value[1])


def is_lookout(dim, many, value):
    """Whether any value is a lookout for so many steps."""
    check_dim(dim)
    check_number(many, 0, 4)
    return fits_lookout(dim, many, value)


def fits_lookout(dim, many, value):
    """Whether any value is a lookout, where the other arguments are known to be right."""
    if not is_tuple(value, count_marks(dim)):
        return False
    return all([fits_tree(dim, mark, many, tree) for mark, tree in enumerate(value)])


def holds_of(dim, start):
    """The start's holds, one for each mark."""
    check_dim(dim)
    check_start(dim[0], start)
    return parted_holds(dim, start)


def parted_holds(dim, row):
    """For each mark the row's numbers at its stands, 0 at others."""
    holds = []
    for mark in range(count_marks(dim)):
        holds.append(tuple([number if own == mark else NOUGHT for number, own in zip(row, dim[1])]))
    return tuple(holds)


def behind(dim, mark, hold, deed):
    """The holds behind the deed, one for each mark."""
    check_dim(dim)
    check_mark(dim, mark)
    check_hold(dim, mark, hold)
    check_number(deed, 0, count_deeds(dim, mark) - 1)
    stands = dim[0][2]
    row = [NOUGHT] * len(stands)
    for at in stands_of(dim, mark):
        for to, chance in stands[at][deed][0]:
            row[to] = plus(row[to], times(hold[at], chance))
    return parted_holds(dim, row)


def row_of(dim, weights, mark, many, tree):
    """The row of the tree: for each stand of its mark what it brings from there."""
    check_dim(dim)
    check_weights(dim[0], weights)
    check_mark(dim, mark)
    check_number(many, 0, 4)
    check_tree(dim, mark, many, tree)
    return tree_row(dim, weights, mark, tree)


def tree_row(dim, weights, mark, tree):
    """The row of a tree, where all arguments are known to be right."""
    if tree == ():
        return (NOUGHT,) * len(stands_of(dim, mark))
    return sum_row(dim, weights, mark, tree[0], lookout_rows(dim, weights, tree[1]))


def lookout_rows(dim, weights, lookout):
    """For each mark the row of the lookout's tree."""
    return [tree_row(dim, weights, mark, tree) for mark, tree in enumerate(lookout)]


def sum_row(dim, weights, mark, deed, rows):
    """The row of a deed of the mark, with the marks' rows behind it."""
    house = dim[0]
    worths = spread(dim, rows)
    return tuple([deed_worth(house[0], weights, worths, house[2][at][deed]) for at in stands_of(dim, mark)])


def spread(dim, rows):
    """The numbers of the marks' rows as one row with a number for each stand."""
    worths = [NOUGHT] * len(dim[1])
    for mark, row in enumerate(rows):
        for at, number in zip(stands_of(dim, mark), row):
            worths[at] = number
    return worths


def lookout_pays(dim, start, many, lookout):
    """The lookout's pays of its so many steps."""
    check_dim(dim)
    check_start(dim[0], start)
    check_number(many, 0, 4)
    check_lookout(dim, many, lookout)
    return pays_of_lookout(dim, start, lookout)


def pays_of_lookout(dim, start, lookout):
    """The lookout's pays, where all arguments are known to be right."""
    pays = dim[0][1]
    alone = [plain_odds(pay, pays) for pay in range(pays)]
    return tuple([dot(start, spread(dim, lookout_rows(dim, weights, lookout))) for weights in alone])


def check_dim(dim):
    """Raises InvalidDim for no dim house."""
    if not is_dim(dim):
        raise InvalidDim(dim)


def check_mark(dim, mark):
    """Raises InvalidNumber for no mark of the dim house."""
    check_number(mark, 0, count_marks(dim) - 1)


def check_hold(dim, mark, hold):
    """Raises InvalidHold for no hold at the mark."""
    marks = dim[1]
    if not is_tuple(hold, len(marks)):
        raise InvalidHold(None)
    for at, number in enumerate(hold):
        if not is_from_nought(number) or (marks[at] != mark and number != NOUGHT):
            raise InvalidHold(at)


def check_tree(dim, mark, many, tree):
    """Raises InvalidTree for no tree of the mark and so many steps."""
    if not fits_tree(dim, mark, many, tree):
        raise InvalidTree(tree)


def check_lookout(dim, many, lookout):
    """Raises InvalidLookout for no lookout of so many steps."""
    if not fits_lookout(dim, many, lookout):
        raise InvalidLookout(lookout)
