"""What sight plans may see and get in so many steps, reckoned once, in whole numbers, for all weights."""

from deedhouses.houses import all_ways
from deedhouses.ratios import common_bottom, dot, ratio, scaled
from deedhouses.sights import count_deeds, count_marks, stands_of


class Outlook:
    """All that may come in so many steps from a row of numbers from 0 on, one for each stand.

    A node tells of a mark and a hold at it: for each deed of the mark the pair of what it gets and
    of the nodes behind it, one for each mark. It is None where no steps are left or nothing is held.
    """

    def __init__(self, dim, many, row):
        house = dim[0]
        self.many = many
        self.kinds = house[1]
        self.share = house[0]
        self.lots = [stands_of(dim, mark) for mark in range(count_marks(dim))]
        self.deeds = [count_deeds(dim, mark) for mark in range(count_marks(dim))]
        self.under = common_bottom([chance for ways in all_ways(house) for _, chance in ways])
        self.unit = common_bottom([gain for stand in house[2] for _, gains in stand for gain in gains])
        self.stands = [[self.whole_deed(deed) for deed in stand] for stand in house[2]]
        self.bottom = common_bottom(row)
        wholes = scaled(row, self.bottom)
        self.nodes = [self.unfolded(mark, many, wholes) for mark in range(len(self.lots))]

    def whole_deed(self, deed):
        """The deed's moves and gains in whole numbers."""
        chances, gains = deed
        moves = [(to, chance[0] * (self.under // chance[1])) for to, chance in chances]
        return moves, scaled(gains, self.unit)

    def unfolded(self, mark, many, row):
        """The node of the mark, with so many steps left, where the row's numbers at its stands are its hold."""
        held = [(at, row[at]) for at in self.lots[mark] if row[at] != 0]
        if many == 0 or not held:
            return None
        return [self.done(deed, many, held) for deed in range(self.deeds[mark])]

    def done(self, deed, many, held):
        """What the deed gets of each pay, with so many steps left, and the nodes behind it.

        What is got is counted in parts of one kind, whatever is left: each step that is left behind
        it makes them smaller by the share's and the chances' divisors.
        """
        got = [0] * self.kinds
        row = [0] * len(self.stands)
        for at, number in held:
            moves, gains = self.stands[at][deed]
            got = [one + number * gain for one, gain in zip(got, gains)]
            for to, chance in moves:
                row[to] += number * chance
        parts = self.parts_of(many)
        return [parts * each for each in got], [self.unfolded(mark, many - 1, row) for mark in range(len(self.lots))]

    def parts_of(self, many):
        """How many parts one step's gains are counted in, with so many steps left."""
        parts = 1
        for _ in range(many - 1):
            parts = parts * self.share[1] * self.under
        return parts

    def best(self, weights):
        """The pays of a best lookout for the weights, and the lookout."""
        wholes = scaled(weights, common_bottom(weights))
        found = [self.best_at(node, self.many, wholes) for node in self.nodes]
        bottom = self.bottom * self.unit * self.parts_of(self.many)
        sums = [sum([pays[pay] for pays, _ in found]) for pay in range(self.kinds)]
        return tuple([ratio(each, bottom) for each in sums]), tuple([tree for _, tree in found])

    def best_at(self, node, many, weights):
        """What a best tree gets of each pay from the node on, and the tree; of like ones that of the first deed."""
        if node is None:
            return [0] * self.kinds, self.blank_tree(many)
        found = None
        for deed, (got, nodes) in enumerate(node):
            behind = [self.best_at(each, many - 1, weights) for each in nodes]
            pays = [one + self.share[0] * sum([row[pay] for row, _ in behind]) for pay, one in enumerate(got)]
            worth = sum([weight * each for weight, each in zip(weights, pays)])
            if found is None or worth > found[0]:
                found = worth, pays, (deed, tuple([tree for _, tree in behind]))
        return found[1], found[2]

    def blank_tree(self, many):
        """The tree that does deed 0 whatever is seen."""
        tree = ()
        for _ in range(many):
            tree = (0, (tree,) * len(self.lots))
        return tree


def best_brought(dim, weights, many, row):
    """What a best lookout for the weights brings from the row in so many steps, and the lookout."""
    pays, lookout = Outlook(dim, many, row).best(weights)
    return dot(weights, pays), lookout
