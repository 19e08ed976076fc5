"""Sight in part: mixes of lookouts, and bounds that they keep."""

from deedhouses.bounds import bounded_pays, check_bounds, numbers_of, weights_by
from deedhouses.errors import InvalidMix
from deedhouses.houses import check_number, check_start
from deedhouses.mixes import is_ascending, is_thrown, mean_pays
from deedhouses.outlooks import Outlook
from deedhouses.ratios import NOUGHT, ONE, dot, is_below
from deedhouses.sights import check_dim, fits_lookout, pays_of_lookout
from deedhouses.tableaus import greatest_corner


def is_sight_mix(dim, many, value):
    """Whether any value is a mix of lookouts for so many steps."""
    check_dim(dim)
    check_number(many, 0, 4)
    return fits_sight_mix(dim, many, value)


def fits_sight_mix(dim, many, value):
    """Whether any value is a mix of lookouts, where the other arguments are known to be right."""
    if not is_thrown(value):
        return False
    lookouts = [lookout for _, lookout in value]
    return all([fits_lookout(dim, many, lookout) for lookout in lookouts]) and is_ascending(lookouts)


def sight_mix_pays(dim, start, many, mix):
    """The pays of the mix of lookouts: the mean of its lookouts' pays."""
    check_dim(dim)
    check_start(dim[0], start)
    check_number(many, 0, 4)
    if not fits_sight_mix(dim, many, mix):
        raise InvalidMix(mix)
    return mean_pays(mix, [pays_of_lookout(dim, start, lookout) for _, lookout in mix])


def sight_keep(dim, start, bounds, many):
    """("kept", MIX), a mix of lookouts that keeps the bounds, or ("not kept", WEIGHTS) that show there is none."""
    check_dim(dim)
    check_start(dim[0], start)
    check_bounds(dim[0], bounds)
    check_number(many, 0, 4)
    outlook = Outlook(dim, many, start)
    weights = (NOUGHT,) * len(bounds)
    found = []
    # Each turn's lookout brings more by the weights than all before it, so none comes twice.
    while True:
        pays, lookout = outlook.best(weights)
        if is_below(dot(weights, pays), dot(weights, numbers_of(bounds))):
            return "not kept", weights
        found.append((pays, lookout))
        told, numbers = kept_mean(found, bounds)
        if told == "found":
            return "kept", mix_by(numbers, found)
        weights = weights_by(bounds, numbers[1:])


def kept_mean(found, bounds):
    """("found", CHANCES) of a mean of the found pays that keeps the bounds, or ("none", PRICES)."""
    asked = bounded_pays(bounds)
    columns = [[ONE] + [pays[pay] for pay in asked] for pays, _ in found]
    # What a pay brings above its bound is a number from 0 on of its own.
    for each in asked:
        columns.append([NOUGHT] + [(-1, 1) if other == each else NOUGHT for other in asked])
    told = greatest_corner(columns, [ONE] + [bounds[pay] for pay in asked], [NOUGHT] * len(columns))
    return told[0], told[1]


def mix_by(chances, found):
    """The mix of the found lookouts whose chance is above 0."""
    parts = [(lookout, chance) for (_, lookout), chance in zip(found, chances) if chance != NOUGHT]
    return tuple([(chance, lookout) for lookout, chance in sorted(parts)])
