"""Numbers from 0 on that answer equations with the greatest sum: an exact simplex in whole numbers."""

from deedhouses.ratios import NOUGHT, common_bottom, ratio, scaled


def pivoted(rows, at, place, last):
    """The rows with the one at AT taken away from the others until their number at PLACE is 0.

    The rows are whole numbers over the divisor LAST; those that come out are over rows[at][place].
    """
    chosen = rows[at]
    pivot = chosen[place]
    made = []
    for index, row in enumerate(rows):
        if index == at:
            made.append(row)
        else:
            # No remainder is left: all these numbers are determinants of parts of the first rows.
            factor = row[place]
            made.append([(pivot * one - factor * two) // last for one, two in zip(row, chosen)])
    return made


class Tableau:
    """Rows of whole numbers over one divisor: so many equations, then what is aimed at.

    Place I of the first MANY places is a helper's, which stands in equation I alone and must
    become 0; the places behind are those of the numbers that are asked for, the last place is
    that of the right sides. An aim's number below 0 tells that its place would raise the aim.
    """

    def __init__(self, rows, many):
        self.rows = rows
        self.many = many
        self.basis = list(range(many))
        self.last = 1

    def pivot(self, at, place):
        """Lets the number at the place stand for equation AT."""
        if self.rows[at][place] < 0:
            # Only a row with the right side 0 comes here; the divisor must stay above 0.
            self.rows[at] = [-each for each in self.rows[at]]
        self.rows = pivoted(self.rows, at, place, self.last)
        self.last = self.rows[at][place]
        self.basis[at] = place

    def entering(self, aim):
        """The first place behind the helpers' that would raise the aim; None."""
        row = self.rows[self.many + aim]
        for place in range(self.many, len(row) - 1):
            if row[place] < 0:
                return place
        return None

    def leaving(self, place):
        """The equation that is the first one to stop a growing number at the place.

        Of like ones it is that with the least place in the basis: so no basis comes twice.
        """
        found = None
        for at in range(self.many):
            if self.rows[at][place] > 0 and (found is None or self.is_sooner(at, found, place)):
                found = at
        return found

    def is_sooner(self, one, two, place):
        """Whether equation ONE stops a growing number at the place ahead of equation TWO."""
        left = self.rows[one][-1] * self.rows[two][place]
        right = self.rows[two][-1] * self.rows[one][place]
        if left == right:
            return self.basis[one] < self.basis[two]
        return left < right

    def raise_aim(self, aim):
        """Brings the aim, which has a greatest number, to it."""
        place = self.entering(aim)
        while place is not None:
            self.pivot(self.leaving(place), place)
            place = self.entering(aim)

    def drop_helpers(self):
        """Lets no helper stand for an equation in which another number could stand."""
        for at in range(self.many):
            if self.basis[at] < self.many:
                row = self.rows[at]
                places = [place for place in range(self.many, len(row) - 1) if row[place] != 0]
                if places:
                    self.pivot(at, places[0])


def greatest_corner(columns, rights, gains):
    """Numbers from 0 on whose sum with the columns is RIGHTS, with the greatest sum with GAINS.

    ("found", NUMBERS, PRICES): at most as many of NUMBERS are above 0 as there are rows, and the
    columns of these hang on no other; each column's sum with PRICES is at least its gain, RIGHTS'
    sum with them is the greatest number. ("none", PRICES): no column's sum with PRICES is above 0,
    but RIGHTS' one is. The greatest number must be there unless there are no such numbers.
    """
    many = len(rights)
    bottoms = [common_bottom([*each, gain]) for each, gain in zip(columns, gains)]
    under = common_bottom(rights)
    table = Tableau(table_rows(columns, rights, gains, bottoms, under), many)
    signs = [-1 if right[0] < 0 else 1 for right in rights]
    table.raise_aim(0)
    helpers = table.rows[many]
    if helpers[-1] < 0:
        return "none", [ratio(sign * (table.last - each), table.last) for sign, each in zip(signs, helpers)]
    table.drop_helpers()
    table.raise_aim(1)
    numbers = [NOUGHT] * len(columns)
    for at, place in enumerate(table.basis):
        if place >= many:
            index = place - many
            numbers[index] = ratio(table.rows[at][-1] * bottoms[index], table.last * under)
    return "found", numbers, [ratio(sign * each, table.last) for sign, each in zip(signs, table.rows[many + 1])]


def table_rows(columns, rights, gains, bottoms, under):
    """The rows of the first tableau: each column is made whole alone, so its number is counted in parts."""
    many = len(rights)
    wholes = [scaled(each, bottom) for each, bottom in zip(columns, bottoms)]
    rows = []
    for at, right in enumerate(scaled(rights, under)):
        sign = -1 if right < 0 else 1
        helpers = [1 if place == at else 0 for place in range(many)]
        rows.append(helpers + [sign * whole[at] for whole in wholes] + [sign * right])
    # The first aim is less of the helpers, which stand for all equations now; the second one is GAINS.
    sums = [-sum([row[place] for row in rows]) for place in range(many, len(rows[0]))]
    aims = [-gain[0] * (bottom // gain[1]) for gain, bottom in zip(gains, bottoms)]
    return rows + [[0] * many + sums, [0] * many + aims + [0]]
