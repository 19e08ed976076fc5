"""What the tests share: drawn houses, a second way to reckon, and values that are wrong."""

import random
from fractions import Fraction
from itertools import product

NIL, ONE, TWO, THREE, HALF, QUARTER = (0, 1), (1, 1), (2, 1), (3, 1), (1, 2), (1, 4)
COIN = (HALF, 2, (((((0, ONE),), (TWO, NIL)), (((0, ONE),), (NIL, TWO))),))
SHOP = (
    HALF,
    2,
    (
        ((((0, HALF), (1, HALF)), (TWO, NIL)), (((0, ONE),), (ONE, ONE))),
        ((((0, ONE),), (NIL, NIL)),),
    ),
)
TURNS = (2, (((ONE, NIL), (NIL, ONE)),), (((1, 0), (1, 0)),))
TOSSED = ((HALF, HALF), (ONE,))
HUGE = (10 ** 380 + 1, 10 ** 379)


def pair(value):
    """A number as this package tells it."""
    value = Fraction(value)
    return value.numerator, value.denominator


def number(told):
    """What the package tells, as a number of Python's own."""
    return Fraction(told[0], told[1])


def row(told):
    return [number(each) for each in told]


def is_plain_fraction(value):
    """Whether a value is a fraction, asked in another way than the package does."""
    if type(value) is not tuple or len(value) != 2:
        return False
    if any(type(each) is not int for each in value) or value[1] < 1:
        return False
    return pair(Fraction(value[0], value[1])) == value


def is_chance(value):
    return is_plain_fraction(value) and value[0] >= 0


def are_chances_of_one(value, many):
    if type(value) is not tuple or len(value) != many or not all(is_chance(each) for each in value):
        return False
    return sum(row(value)) == 1


def draw_chances(source, stands, most=None):
    many = source.randint(1, min(stands, most or stands))
    told = sorted(source.sample(range(stands), many))
    parts = [source.randint(1, 6) for _ in told]
    return tuple((at, pair(Fraction(part, sum(parts)))) for at, part in zip(told, parts))


def draw_row(source, many, low=-6, high=6):
    return tuple(pair(Fraction(source.randint(low, high), source.randint(1, 4))) for _ in range(many))


def draw_odds(source, many):
    parts = [source.choice((0, 0, 1, 2, 3)) for _ in range(many)]
    if sum(parts) == 0:
        parts[source.randrange(many)] = 1
    return tuple(pair(Fraction(part, sum(parts))) for part in parts)


def draw_house(seed, stands=3, deeds=3, pays=2, share=None, alike=False):
    """A drawn house; with ALIKE some deeds are the same ones."""
    source = random.Random(seed)
    if share is None:
        share = source.choice(((0, 1), (1, 2), (1, 3), (4, 5), (9, 10)))
    made = []
    for _ in range(stands):
        stand = []
        for _ in range(source.randint(1, deeds)):
            if alike and stand and source.random() < 0.4:
                stand.append(source.choice(stand))
            else:
                stand.append((draw_chances(source, stands), draw_row(source, pays)))
        made.append(tuple(stand))
    return share, pays, tuple(made)


def draw_start(seed, house):
    source = random.Random(seed)
    return draw_odds(source, len(house[2]))


def draw_still(seed, house):
    source = random.Random(seed)
    return tuple(draw_odds(source, len(stand)) for stand in house[2])


def draw_minded(seed, house, minds):
    source = random.Random(seed)
    odds = tuple(tuple(draw_odds(source, len(stand)) for _ in range(minds)) for stand in house[2])
    turns = tuple(
        tuple(tuple(source.randrange(minds) for _ in range(minds)) for _ in stand) for stand in house[2]
    )
    return minds, odds, turns


def all_choices(house):
    return list(product(*[range(len(stand)) for stand in house[2]]))


def plain(house, choice):
    return tuple(
        tuple(ONE if at == deed else NIL for at in range(len(stand))) for deed, stand in zip(choice, house[2])
    )


def answers(matrix, rights):
    """Gauss' way with Python's own fractions: one right side."""
    rows = [list(left) + [right] for left, right in zip(matrix, rights)]
    many = len(rows)
    for at in range(many):
        found = next(index for index in range(at, many) if rows[index][at] != 0)
        rows[at], rows[found] = rows[found], rows[at]
        rows[at] = [each / rows[at][at] for each in rows[at]]
        for index in range(many):
            if index != at and rows[index][at] != 0:
                rows[index] = [one - rows[index][at] * two for one, two in zip(rows[index], rows[at])]
    return [each[-1] for each in rows]


def plain_worths(house, still, pay):
    """The worths of one pay by the equations, in another way than the package's."""
    share, stands = number(house[0]), house[2]
    matrix, rights = [], []
    for at, stand in enumerate(stands):
        line = [Fraction(int(at == to)) for to in range(len(stands))]
        right = Fraction(0)
        for odd, (chances, gains) in zip(still[at], stand):
            right += number(odd) * number(gains[pay])
            for to, chance in chances:
                line[to] -= share * number(odd) * number(chance)
        matrix.append(line)
        rights.append(right)
    return answers(matrix, rights)


def plain_pays(house, start, still):
    """The pays of a still plan, in another way than the package's."""
    return [
        sum(chance * worth for chance, worth in zip(row(start), plain_worths(house, still, pay)))
        for pay in range(house[1])
    ]


def gap(house, weights, worths, at, deed):
    """One gap, worths and weights being Python's own numbers."""
    chances, gains = house[2][at][deed]
    own = sum(weight * number(gain) for weight, gain in zip(weights, gains))
    return worths[at] - own - number(house[0]) * sum(number(chance) * worths[to] for to, chance in chances)


def all_gaps(house, weights, worths):
    return [gap(house, weights, worths, at, deed) for at, stand in enumerate(house[2]) for deed in range(len(stand))]


def strange_values():
    """Values of many kinds, none of them a thing that this package tells of by name."""
    return [
        None, True, False, -1, 9, 10 ** 390, "", "told", b"told", [], {}, {"given": 1}, set(), (), ((),), (None,),
        (1,), ("0", "0"), (1, 2, 3, 4, 5, 6, 7, 8, 9), ("a", "b"), ([], []), ({}, None), [(1, 1)], len, object,
        ((((((((1,),),),),),),),), (True, True, True), ((1, 0), (0, 0)), (((0, 2), (2, 2)),),
    ]


def bent(value, spare=3):
    """The value with one part of it, at any depth, put into another form; SPARE bends for each part."""
    yield from bent_here(value)
    if isinstance(value, tuple):
        for at, part in enumerate(value):
            for other in bent(part, spare):
                yield value[:at] + (other,) + value[at + 1:]


def bent_here(value):
    if isinstance(value, tuple):
        yield list(value)
        yield value + (None,)
        yield value + value[-1:]
        yield value[:-1]
        yield value[::-1]
        yield ()
        yield None
        if len(value) == 2 and all(type(each) is int for each in value):
            yield (value[0] * 2, value[1] * 2)
            yield (-value[0], -value[1])
            yield (value[0], 0)
            yield (-value[0], value[1])
            yield (value[0] + value[1], value[1])
    elif type(value) is int:
        yield bool(value)
        yield value + 1
        yield value - 1
        yield str(value)
        yield (value,)
        yield None
        yield 10 ** 399 + value
    else:
        yield 0
        yield "none"
        yield ()
