"""What the tests share: drawn houses, a second way to reckon, and values that are wrong."""

import random
from fractions import Fraction
from itertools import product

NIL, ONE, TWO, THREE, HALF, QUARTER = (0, 1), (1, 1), (2, 1), (3, 1), (1, 2), (1, 4)
COIN = (HALF, 2, (((((0, ONE),), (TWO, NIL)), (((0, ONE),), (NIL, TWO))),))
SHOP = (
    HALF,
    2,
    (
        ((((0, HALF), (1, HALF)), (TWO, NIL)), (((0, ONE),), (ONE, ONE))),
        ((((0, ONE),), (NIL, NIL)),),
    ),
)
TURNS = (2, (((ONE, NIL), (NIL, ONE)),), (((1, 0), (1, 0)),))
TOSSED = ((HALF, HALF), (ONE,))
HUGE = (10 ** 380 + 1, 10 ** 379)


def pair(value):
    """A number as this package tells it."""
    value = Fraction(value)
    return value.numerator, value.denominator


def number(told):
    """What the package tells, as a number of Python's own."""
    return Fraction(told[0], told[1])


def row(told):
    return [number(each) for each in told]


def is_plain_fraction(value):
    """Whether a value is a fraction, asked in another way than the package does."""
    if type(value) is not tuple or len(value) != 2:
        return False
    if any(type(each) is not int for each in value) or value[1] < 1:
        return False
    return pair(Fraction(value[0], value[1])) == value


def is_chance(value):
    return is_plain_fraction(value) and value[0] >= 0


def are_chances_of_one(value, many):
    if type(value) is not tuple or len(value) != many or not all(is_chance(each) for each in value):
        return False
    return sum(row(value)) == 1


def draw_chances(source, stands, most=None):
    many = source.randint(1, min(stands, most or stands))
    told = sorted(source.sample(range(stands), many))
    parts = [source.randint(1, 6) for _ in told]
    return tuple((at, pair(Fraction(part, sum(parts)))) for at, part in zip(told, parts))


def draw_row(source, many, low=-6, high=6):
    return tuple(pair(Fraction(source.randint(low, high), source.randint(1, 4))) for _ in range(many))


def draw_odds(source, many):
    parts = [source.choice((0, 0, 1, 2, 3)) for _ in range(many)]
    if sum(parts) == 0:
        parts[source.randrange(many)] = 1
    return tuple(pair(Fraction(part, sum(parts))) for part in parts)


def draw_house(seed, stands=3, deeds=3, pays=2, share=None, alike=False):
    """A drawn house; with ALIKE some deeds are the same ones."""
    source = random.Random(seed)
    if share is None:
        share = source.choice(((0, 1), (1, 2), (1, 3), (4, 5), (9, 10)))
    made = []
    for _ in range(stands):
        stand = []
        for _ in range(source.randint(1, deeds)):
            if alike and stand and source.random() < 0.4:
                stand.append(source.choice(stand))
            else:
                stand.append((draw_chances(source, stands), draw_row(source, pays)))
        made.append(tuple(stand))
    return share, pays, tuple(made)


def draw_start(seed, house):
    source = random.Random(seed)
    return draw_odds(source, len(house[2]))


def draw_still(seed, house):
    source = random.Random(seed)
    return tuple(draw_odds(source, len(stand)) for stand in house[2])


def draw_minded(seed, house, minds):
    source = random.Random(seed)
    odds = tuple(tuple(draw_odds(source, len(stand)) for _ in range(minds)) for stand in house[2])
    turns = tuple(
        tuple(tuple(source.randrange(minds) for _ in range(minds)) for _ in stand) for stand in house[2]
    )
    return minds, odds, turns


def all_choices(house):
    return list(product(*[range(len(stand)) for stand in house[2]]))


def plain(house, choice):
    return tuple(
        tuple(ONE if at == deed else NIL for at in range(len(stand))) for deed, stand in zip(choice, house[2])
    )


def answers(matrix, rights):
    """Gauss' way with Python's own fractions: one right side."""
    rows = [list(left) + [right] for left, right in zip(matrix, rights)]
    many = len(rows)
    for at in range(many):
        found = next(index for index in range(at, many) if rows[index][at] != 0)
        rows[at], rows[found] = rows[found], rows[at]
        rows[at] = [each / rows[at][at] for each in rows[at]]
        for index in range(many):
            if index != at and rows[index][at] != 0:
                rows[index] = [one - rows[index][at] * two for one, two in zip(rows[index], rows[at])]
    return [each[-1] for each in rows]


def plain_worths(house, still, pay):
    """The worths of one pay by the equations, in another way than the package's."""
    share, stands = number(house[0]), house[2]
    matrix, rights = [], []
    for at, stand in enumerate(stands):
        line = [Fraction(int(at == to)) for to in range(len(stands))]
        right = Fraction(0)
        for odd, (chances, gains) in zip(still[at], stand):
            right += number(odd) * number(gains[pay])
            for to, chance in chances:
                line[to] -= share * number(odd) * number(chance)
        matrix.append(line)
        rights.append(right)
    return answers(matrix, rights)


def plain_pays(house, start, still):
    """The pays of a still plan, in another way than the package's."""
    return [
        sum(chance * worth for chance, worth in zip(row(start), plain_worths(house, still, pay)))
        for pay in range(house[1])
    ]


def gap(house, weights, worths, at, deed):
    """One gap, worths and weights being Python's own numbers."""
    chances, gains = house[2][at][deed]
    own = sum(weight * number(gain) for weight, gain in zip(weights, gains))
    return worths[at] - own - number(house[0]) * sum(number(chance) * worths[to] for to, chance in chances)


def all_gaps(house, weights, worths):
    return [gap(house, weights, worths, at, deed) for at, stand in enumerate(house[2]) for deed in range(len(stand))]


def is_vague_too(value):
    """Whether a value is a vague house, asked once more by [20]'s words."""
    if type(value) is not tuple or len(value) != 3:
        return False
    share, pays, stands = value
    if not is_chance(share) or number(share) >= 1 or type(pays) is not int or not 1 <= pays <= 4:
        return False
    if type(stands) is not tuple or not 1 <= len(stands) <= 8:
        return False
    for stand in stands:
        if type(stand) is not tuple or not 1 <= len(stand) <= 4:
            return False
        for deed in stand:
            if type(deed) is not tuple or len(deed) != 2 or not are_stretches_too(deed[0], len(stands)):
                return False
            if type(deed[1]) is not tuple or len(deed[1]) != pays or not all(is_plain_fraction(each) for each in deed[1]):
                return False
    return True


def are_stretches_too(value, stands):
    """Whether a value is the STRETCHES of a deed, by [20]'s words."""
    if type(value) is not tuple or not all(type(each) is tuple and len(each) == 3 for each in value):
        return False
    told = [each[0] for each in value]
    if not all(type(each) is int and 0 <= each < stands for each in told) or told != sorted(set(told)):
        return False
    ends = [(each[1], each[2]) for each in value]
    if not all(is_chance(low) and is_chance(high) and number(low) <= number(high) <= 1 for low, high in ends):
        return False
    return sum(number(low) for low, _ in ends) <= 1 <= sum(number(high) for _, high in ends)


def draw_stretches(source, stands):
    """Drawn stretches around drawn chances, so that something fits; some ends are alike, some are 0 or 1."""
    made = []
    for at, chance in draw_chances(source, stands):
        low = number(chance) * source.choice((Fraction(0), Fraction(1, 2), Fraction(3, 4), Fraction(1)))
        high = number(chance) + (1 - number(chance)) * source.choice((Fraction(0), Fraction(1, 3), Fraction(1, 2), Fraction(1)))
        made.append((at, pair(low), pair(high)))
    return tuple(made)


def draw_vague(seed, stands=3, deeds=3, pays=2, share=None):
    """A drawn vague house."""
    source = random.Random(seed)
    house = draw_house(seed, stands, deeds, pays, share)
    made = []
    for stand in house[2]:
        made.append(tuple((draw_stretches(source, stands), gains) for _, gains in stand))
    return house[0], house[1], tuple(made)


def draw_row_within(source, stretches):
    """Drawn chances within the stretches, of sum 1; often at ends."""
    left = {at: (number(low), number(high)) for at, low, high in stretches}
    given = {}
    for at in source.sample(sorted(left), len(left)):
        low, high = left.pop(at)
        least = max(low, 1 - sum(given.values()) - sum(each[1] for each in left.values()))
        greatest = min(high, 1 - sum(given.values()) - sum(each[0] for each in left.values()))
        given[at] = least + (greatest - least) * Fraction(source.choice((0, 0, 1, 2, 3, 4, 4)), 4)
    return tuple((at, pair(given[at])) for at in sorted(given) if given[at] != 0)


def draw_fitting(seed, vague):
    """A drawn house that fits the vague one."""
    source = random.Random(seed)
    made = []
    for stand in vague[2]:
        made.append(tuple((draw_row_within(source, ways), gains) for ways, gains in stand))
    return vague[0], vague[1], tuple(made)


def fits_too(vague, house):
    """Whether what is known to be a house fits, by [20]'s words."""
    if house[:2] != vague[:2] or [len(stand) for stand in house[2]] != [len(stand) for stand in vague[2]]:
        return False
    for told, stand in zip(vague[2], house[2]):
        for (ways, told_gains), (chances, gains) in zip(told, stand):
            row_of_chances = {at: number(each) for at, each in chances}
            for at, low, high in ways:
                if not number(low) <= row_of_chances.pop(at, Fraction(0)) <= number(high):
                    return False
            if row_of_chances or gains != told_gains:
                return False
    return True


def end_rows(ways):
    """All rows of [28]'s corners for some stretches, as Python's own numbers, each once."""
    found = []
    for free in range(len(ways)):
        for ends in product(*[(number(low), number(high)) for at, (_, low, high) in enumerate(ways) if at != free]):
            own = list(ends[:free]) + [1 - sum(ends)] + list(ends[free:])
            if number(ways[free][1]) <= own[free] <= number(ways[free][2]) and own not in found:
                found.append(own)
    return found


def corner_houses_of(vague, choice):
    """All houses in which the choice's rows are corners; other deeds are filled somehow."""
    source = random.Random(1)
    lots = []
    for stand, deed in zip(vague[2], choice):
        ways = stand[deed][0]
        lots.append([tuple((each[0], pair(own)) for each, own in zip(ways, ends) if own != 0) for ends in end_rows(ways)])
    for picked in product(*lots):
        made = []
        for stand, deed, own in zip(vague[2], choice, picked):
            made.append(tuple(
                (own if at == deed else draw_row_within(source, ways), gains) for at, (ways, gains) in enumerate(stand)
            ))
        yield vague[0], vague[1], tuple(made)


def weighted_worths(house, weights, still):
    """The worths of the one pay that weights make, in another way than the package's."""
    rows = [plain_worths(house, still, pay) for pay in range(house[1])]
    return [sum(number(weight) * each[at] for weight, each in zip(weights, rows)) for at in range(len(house[2]))]


def draw_dim(seed, stands=4, deeds=2, marks=2, pays=1, share=None):
    """A drawn dim house: each mark has as many deeds at each of its stands."""
    source = random.Random(seed)
    share = share or source.choice(((0, 1), (1, 2), (2, 3), (9, 10)))
    told = list(range(marks)) + [source.randrange(marks) for _ in range(stands - marks)]
    source.shuffle(told)
    many = [source.randint(1, deeds) for _ in range(marks)]
    made = []
    for mark in told:
        made.append(tuple((draw_chances(source, stands), draw_row(source, pays)) for _ in range(many[mark])))
    return (share, pays, tuple(made)), tuple(told)


def deeds_of_mark(dim, mark):
    return len(dim[0][2][dim[1].index(mark)])


def all_trees(dim, mark, many):
    """All trees for a mark and so many steps."""
    if many == 0:
        return [()]
    behind = list(product(*[all_trees(dim, other, many - 1) for other in range(max(dim[1]) + 1)]))
    return [(deed, trees) for deed in range(deeds_of_mark(dim, mark)) for trees in behind]


def tree_number(dim, weights, tree, at):
    """What a tree brings from one stand, by the told sums."""
    if tree == ():
        return Fraction(0)
    share, _, stands = dim[0]
    chances, gains = stands[at][tree[0]]
    own = sum(number(weight) * number(gain) for weight, gain in zip(weights, gains))
    behind = sum(number(chance) * tree_number(dim, weights, tree[1][dim[1][to]], to) for to, chance in chances)
    return own + number(share) * behind


def is_tree_too(dim, mark, many, value):
    """Whether a value is a tree, by [31]'s words."""
    if many == 0:
        return type(value) is tuple and value == ()
    if type(value) is not tuple or len(value) != 2 or type(value[0]) is not int or type(value[1]) is not tuple:
        return False
    if not 0 <= value[0] < deeds_of_mark(dim, mark) or len(value[1]) != max(dim[1]) + 1:
        return False
    return all(is_tree_too(dim, other, many - 1, tree) for other, tree in enumerate(value[1]))


def strange_values():
    """Values of many kinds, none of them a thing that this package tells of by name."""
    return [
        None, True, False, -1, 9, 10 ** 390, "", "told", b"told", [], {}, {"given": 1}, set(), (), ((),), (None,),
        (1,), ("0", "0"), (1, 2, 3, 4, 5, 6, 7, 8, 9), ("a", "b"), ([], []), ({}, None), [(1, 1)], len, object,
        ((((((((1,),),),),),),),), (True, True, True), ((1, 0), (0, 0)), (((0, 2), (2, 2)),),
    ]


def bent(value, spare=3):
    """The value with one part of it, at any depth, put into another form; SPARE bends for each part."""
    yield from bent_here(value)
    if isinstance(value, tuple):
        for at, part in enumerate(value):
            for other in bent(part, spare):
                yield value[:at] + (other,) + value[at + 1:]


def bent_here(value):
    if isinstance(value, tuple):
        yield list(value)
        yield value + (None,)
        yield value + value[-1:]
        yield value[:-1]
        yield value[::-1]
        yield ()
        yield None
        if len(value) == 2 and all(type(each) is int for each in value):
            yield (value[0] * 2, value[1] * 2)
            yield (-value[0], -value[1])
            yield (value[0], 0)
            yield (-value[0], value[1])
            yield (value[0] + value[1], value[1])
    elif type(value) is int:
        yield bool(value)
        yield value + 1
        yield value - 1
        yield str(value)
        yield (value,)
        yield None
        yield 10 ** 399 + value
    else:
        yield 0
        yield "none"
        yield ()
