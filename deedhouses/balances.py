"""The equations of shares, written down for the simplex: a column for each deed of the house."""

from deedhouses.ratios import NOUGHT, ONE, minus, plus, times


def deed_columns(house, pays):
    """For each deed, in order, its part in each stand's balance, then its gains of the pays told."""
    share, _, stands = house
    columns = []
    for at, stand in enumerate(stands):
        for chances, gains in stand:
            parts = [NOUGHT] * len(stands)
            for to, chance in chances:
                parts[to] = minus(NOUGHT, times(share, chance))
            parts[at] = plus(parts[at], ONE)
            columns.append(parts + [gains[pay] for pay in pays])
    return columns


def deed_rows(house, numbers):
    """The numbers of all deeds, in order, as a row for each stand; what stands behind them is left out."""
    rows = []
    first = 0
    for stand in house[2]:
        rows.append(tuple(numbers[first:first + len(stand)]))
        first += len(stand)
    return tuple(rows)
