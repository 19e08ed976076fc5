"""As many equations as unknown numbers, with one answer, in whole numbers throughout.

All matrices here are of one kind: 1 for each number itself, less the chances by which it moves on
to others, of which a part is lost at last. So the first equations of them have one answer for as
many numbers, too, and no number that is divided by is 0.
"""

from deedhouses.ratios import common_bottom, ratio, scaled


def lowered(row, chosen, at, last):
    """The row with as much of the chosen one taken away that its number at AT becomes 0."""
    pivot, factor = chosen[at], row[at]
    # No remainder is left: all these numbers are determinants of parts of the first rows.
    left = [(pivot * one - factor * two) // last for one, two in zip(row[at + 1:], chosen[at + 1:])]
    return [0] * (at + 1) + left


def triangle(rows, many):
    """The rows with 0 at all places ahead of their own one, and the last of so many rows' own number."""
    last = 1
    for at in range(many):
        chosen = rows[at]
        rows = rows[:at + 1] + [lowered(row, chosen, at, last) for row in rows[at + 1:]]
        last = chosen[at]
    return rows, last


def answered(rows, many):
    """For each of so many unknown numbers its row of answers, and the one divisor of all of them."""
    rows, last = triangle(rows, many)
    tops = []
    for at in reversed(range(many)):
        row = rows[at]
        sums = [last * side for side in row[many:]]
        for factor, known in zip(row[at + 1:many], tops):
            sums = [each - factor * top for each, top in zip(sums, known)]
        tops = [[each // row[at] for each in sums]] + tops
    return tops, last


def solved(matrix, rights):
    """For each unknown number its row of answers: matrix times these is the rows of right sides."""
    if not matrix:
        return []
    bottoms = [common_bottom(row) for row in matrix]
    rows = [scaled(row, bottom) for row, bottom in zip(matrix, bottoms)]
    unders = []
    # Each column of right sides is made whole alone, so that the divisor hangs on the matrix alone.
    for at in range(len(rights[0])):
        side = [ratio(right[at][0] * bottom, right[at][1]) for right, bottom in zip(rights, bottoms)]
        under = common_bottom(side)
        rows = [row + [top] for row, top in zip(rows, scaled(side, under))]
        unders.append(under)
    tops, last = answered(rows, len(matrix))
    return [[ratio(top, last * under) for top, under in zip(row, unders)] for row in tops]


def solved_across(matrix, right):
    """The numbers, one for each row of the matrix, whose sum with the rows is the one right side."""
    bottoms = [common_bottom(row) for row in matrix]
    wholes = [scaled(row, bottom) for row, bottom in zip(matrix, bottoms)]
    under = common_bottom(right)
    rows = []
    for at, top in enumerate(scaled(right, under)):
        rows.append([row[at] for row in wholes] + [top])
    tops, last = answered(rows, len(matrix))
    return [ratio(row[0] * bottom, last * under) for row, bottom in zip(tops, bottoms)]
