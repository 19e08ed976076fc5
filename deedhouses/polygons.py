"""Two pays: the polygon of the pays of all plans."""

from deedhouses.balances import deed_columns, deed_rows
from deedhouses.best import best_from
from deedhouses.errors import InvalidPair, NotTwo
from deedhouses.houses import check_house, check_start
from deedhouses.plans import plain_plan
from deedhouses.ratios import NOUGHT, ONE, common_bottom, dot, is_below, is_row, minus, opposites, scaled
from deedhouses.shares import still_from
from deedhouses.tableaus import greatest_corner
from deedhouses.worths import pays_from


def corners(house, start):
    """The tuple of pairs (PAIR, CHOICE) of the polygon's corners, the least one first, turning left."""
    check_house(house)
    check_start(house, start)
    if house[1] != 2:
        raise NotTwo()
    found = border_points(house, start)
    return tuple([(pair, found[pair]) for pair in outline(list(found))])


def border_points(house, start):
    """Points of the polygon's border, all corners among them, each with a choice that has these pays."""
    found = {}
    sides = first_sides(house, start, found)
    while sides:
        one, two = sides.pop()
        outward = (minus(two[1], one[1]), minus(one[0], two[0]))
        pair = farthest(house, start, outward, found)
        if is_below(dot(outward, one), dot(outward, pair)):
            sides.append((one, pair))
            sides.append((pair, two))
    return found


def first_sides(house, start, found):
    """A line through the polygon, there and back; none where the polygon is a point."""
    for ahead in ((ONE, NOUGHT), (NOUGHT, ONE)):
        least = farthest(house, start, opposites(ahead), found)
        greatest = farthest(house, start, ahead, found)
        if is_below(dot(ahead, least), dot(ahead, greatest)):
            return [(least, greatest), (greatest, least)]
    return []


def farthest(house, start, weights, found):
    """A point of the polygon with the greatest weighted sum; its choice is put down in FOUND."""
    _, choice = best_from(house, weights)
    pair = pays_from(house, start, plain_plan(house, choice))
    if pair not in found:
        found[pair] = choice
    return pair


def outline(pairs):
    """The corners of the points, each different: the least one first, turning left."""
    firsts = [pair[0] for pair in pairs]
    seconds = [pair[1] for pair in pairs]
    # Over one divisor fractions are compared, and turned by, as whole numbers.
    rights = scaled(firsts, common_bottom(firsts))
    ups = scaled(seconds, common_bottom(seconds))
    points = sorted([((right, up), pair) for right, up, pair in zip(rights, ups, pairs)])
    if len(points) < 3:
        return [pair for _, pair in points]
    lower = half_outline(points)
    upper = half_outline(points[::-1])
    # Each half ends where the other one begins.
    return [pair for _, pair in lower[:-1] + upper[:-1]]


def half_outline(points):
    """Of sorted points those from the first to the last one that turn left only."""
    kept = []
    for point in points:
        while len(kept) > 1 and not turns_left(kept[-2][0], kept[-1][0], point[0]):
            kept.pop()
        kept.append(point)
    return kept


def turns_left(one, two, three):
    """Whether the way from the first over the second to the third point turns left."""
    ahead = (two[0] - one[0], two[1] - one[1])
    behind = (three[0] - two[0], three[1] - two[1])
    return ahead[0] * behind[1] > ahead[1] * behind[0]


def place(house, start, pair):
    """("in", STILL), a still plan with these pays, or ("out", WEIGHTS, WORTHS) that show there is none."""
    check_house(house)
    check_start(house, start)
    check_pair(pair)
    if house[1] != 2:
        raise NotTwo()
    columns = deed_columns(house, (0, 1))
    found = greatest_corner(columns, list(start) + list(pair), [NOUGHT] * len(columns))
    if found[0] == "found":
        return "in", still_from(deed_rows(house, found[1]))
    stands = len(house[2])
    return "out", tuple(found[1][stands:stands + 2]), opposites(found[1][:stands])


def check_pair(pair):
    """Raises InvalidPair for no pair of fractions."""
    if not is_row(pair, 2):
        raise InvalidPair(pair)
