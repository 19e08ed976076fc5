"""A desk: a named house at which one begins, wishes and follows plans, step by step, and back."""

from deedhouses.bounds import are_kept, check_bounds, kept_or_not
from deedhouses.errors import Broken, CannotKeep, InvalidNumber, NothingToUndo
from deedhouses.houses import check_deed, check_pay, check_stand, check_start, with_gain
from deedhouses.language import check_named
from deedhouses.plans import check_still, plain_odds, plain_plan
from deedhouses.ratios import is_fraction
from deedhouses.worths import pays_from


class Desk:
    """A named house, a start, bounds and a still plan that keeps them.

    NOW is the tuple of these four and of the plan's pays; PAST are those that were there, the first one
    ahead. Both stand in one tuple, which is never changed: so it is also what a trial goes back to.
    """

    def __init__(self, named):
        check_named(named)
        house = named[0]
        stands = len(house[2])
        start, still = plain_odds(0, stands), plain_plan(house, (0,) * stands)
        self.state = (named, start, (None,) * house[1], still, pays_from(house, start, still)), ()

    @property
    def named(self):
        """The named house."""
        return self.state[0][0]

    @property
    def start(self):
        """Where one begins."""
        return self.state[0][1]

    @property
    def bounds(self):
        """What the pays must not fall below."""
        return self.state[0][2]

    @property
    def still(self):
        """The plan."""
        return self.state[0][3]

    @property
    def pays(self):
        """The plan's pays from the start."""
        return self.state[0][4]

    def __len__(self):
        return len(self.state[1])

    def __bool__(self):
        return True

    def begin(self, start):
        """Begins elsewhere."""
        check_start(self.named[0], start)
        self.change(self.named, start, self.bounds, self.still)

    def wish(self, bounds):
        """Has other bounds."""
        check_bounds(self.named[0], bounds)
        self.change(self.named, self.start, bounds, self.still)

    def follow(self, still):
        """Follows another plan."""
        check_still(self.named[0], still)
        self.change(self.named, self.start, self.bounds, still)

    def settle(self, bounds):
        """Has these bounds, and follows a plan that keeps them."""
        house = self.named[0]
        check_bounds(house, bounds)
        found = kept_or_not(house, self.start, bounds)
        if found[0] == "not kept":
            raise CannotKeep(found[1], found[2])
        self.change(self.named, self.start, bounds, found[1])

    def pay(self, stand, deed, *, pay, number):
        """Lets a deed's gain of one pay be the number."""
        house, names = self.named
        check_stand(house, stand)
        check_deed(house, stand, deed)
        check_pay(house, pay)
        if not is_fraction(number):
            raise InvalidNumber(number)
        named = with_gain(house, stand, deed, pay, number), names
        self.change(named, self.start, self.bounds, self.still)

    def change(self, named, start, bounds, still):
        """Puts these in the place of what is there; Broken if the plan would not keep the bounds."""
        pays = pays_from(named[0], start, still)
        if not are_kept(bounds, pays):
            raise Broken()
        now, past = self.state
        self.state = (named, start, bounds, still, pays), past + (now,)

    def undo(self):
        """Takes back the last change."""
        past = self.state[1]
        if not past:
            raise NothingToUndo()
        self.state = past[-1], past[:-1]

    def trial(self):
        """For a with statement: an error in its block takes all back that was done in it."""
        return Trial(self)

    def tried(self, action):
        """What the action, a function of the desk, returns; an error in it takes all back that it did."""
        with self.trial() as desk:
            return action(desk)


class Trial:
    """What leads a desk back to what it was when the block began."""

    def __init__(self, desk):
        self.desk = desk
        self.state = None

    def __enter__(self):
        self.state = self.desk.state
        return self.desk

    def __exit__(self, kind, value, trace):
        desk = self.desk
        if kind is not None:
            desk.state = self.state
