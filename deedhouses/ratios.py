"""Fractions: pairs of whole numbers in lowest terms, the second one above 0."""

from math import gcd, lcm

NOUGHT = (0, 1)
ONE = (1, 1)


def is_whole(value):
    """Whether any value is a whole number: True and False are none."""
    return isinstance(value, int) and not isinstance(value, bool)


def is_within(value, least, greatest):
    """Whether any value is a whole number from the least up to the greatest one."""
    return is_whole(value) and least <= value and value <= greatest


def is_tuple(value, many):
    """Whether any value is a tuple of so many elements."""
    return isinstance(value, tuple) and len(value) == many


def is_fraction(value):
    """Whether any value is a fraction."""
    if not is_tuple(value, 2) or not is_whole(value[0]) or not is_whole(value[1]):
        return False
    return value[1] > 0 and gcd(value[0], value[1]) == 1


def is_from_nought(value):
    """Whether any value is a fraction from 0 on."""
    return is_fraction(value) and value[0] >= 0


def is_row(value, many):
    """Whether any value is a row of so many fractions."""
    return is_tuple(value, many) and all([is_fraction(each) for each in value])


def are_odds(value, many):
    """Whether any value is a row of so many fractions from 0 on, of sum 1."""
    if not is_tuple(value, many) or not all([is_from_nought(each) for each in value]):
        return False
    return total(value) == ONE


def ratio(top, bottom):
    """The fraction top over bottom, where bottom is not 0."""
    common = gcd(top, bottom)
    if bottom < 0:
        common = -common
    return top // common, bottom // common


def plus(one, two):
    """The sum of two fractions."""
    return ratio(one[0] * two[1] + two[0] * one[1], one[1] * two[1])


def minus(one, two):
    """The first fraction less the second one."""
    return ratio(one[0] * two[1] - two[0] * one[1], one[1] * two[1])


def times(one, two):
    """The product of two fractions."""
    return ratio(one[0] * two[0], one[1] * two[1])


def over(one, two):
    """The first fraction over the second one, which is not 0."""
    return ratio(one[0] * two[1], one[1] * two[0])


def is_below(one, two):
    """Whether the first fraction is less than the second one."""
    return one[0] * two[1] < two[0] * one[1]


def least_index(row):
    """The first index of the least fraction of a row."""
    found = 0
    for at, each in enumerate(row):
        if is_below(each, row[found]):
            found = at
    return found


def greatest_index(row):
    """The first index of the greatest fraction of a row."""
    return least_index(opposites(row))


def opposites(row):
    """The numbers of the row with the other sign, as a tuple."""
    return tuple([(-top, bottom) for top, bottom in row])


def dot(one, two):
    """The sum of the products of two rows of one length, place by place."""
    top, bottom = 0, 1
    for (high, low), (factor, under) in zip(one, two):
        if high != 0 and factor != 0:
            below = low * under
            common = gcd(bottom, below)
            top = top * (below // common) + high * factor * (bottom // common)
            bottom = bottom // common * below
    return ratio(top, bottom)


def total(row):
    """The sum of any number of fractions."""
    return dot(row, [ONE] * len(row))


def common_bottom(row):
    """The least number from 1 on that makes each fraction of the row whole."""
    bottom = 1
    for _, low in row:
        bottom = lcm(bottom, low)
    return bottom


def scaled(row, bottom):
    """The whole numbers that the fractions of the row make, each times a number that makes them whole."""
    return [high * (bottom // low) for high, low in row]


def column(rows, at):
    """The numbers of all rows at one place."""
    return [row[at] for row in rows]
