"""The errors of the package: each one tells what was wrong, and stands under HouseError alone."""


class HouseError(ValueError):
    """Whatever this package raises stands under this one."""


class InvalidNumber(HouseError):
    """A number that is none, or none of those that may stand here."""

    def __init__(self, given):
        self.given = given


class InvalidHouse(HouseError):
    """What is no house."""

    def __init__(self, given):
        self.given = given


class InvalidMinded(HouseError):
    """What is no minded plan of the house."""

    def __init__(self, given):
        self.given = given


class InvalidShares(HouseError):
    """What are no shares beside the start."""

    def __init__(self, given):
        self.given = given


class InvalidMix(HouseError):
    """What is no mix."""

    def __init__(self, given):
        self.given = given


class InvalidPair(HouseError):
    """What is no pair of fractions."""

    def __init__(self, given):
        self.given = given


class InvalidVague(HouseError):
    """What is no vague house, or no sketch."""

    def __init__(self, given):
        self.given = given


class InvalidStretches(HouseError):
    """What are no stretches."""

    def __init__(self, given):
        self.given = given


class InvalidFlag(HouseError):
    """What is neither True nor False."""

    def __init__(self, given):
        self.given = given


class InvalidDim(HouseError):
    """What is no dim house."""

    def __init__(self, given):
        self.given = given


class InvalidTree(HouseError):
    """What is no tree."""

    def __init__(self, given):
        self.given = given


class InvalidLookout(HouseError):
    """What is no lookout."""

    def __init__(self, given):
        self.given = given


class InvalidRow(HouseError):
    """What is no row that fits."""

    def __init__(self, given):
        self.given = given


class InvalidNamed(HouseError):
    """What is no named house."""

    def __init__(self, given):
        self.given = given


class InvalidPlayer(HouseError):
    """What is no player of the house."""

    def __init__(self, given):
        self.given = given


class NotADesk(HouseError):
    """What is no desk."""

    def __init__(self, given):
        self.given = given


class TooMany(HouseError):
    """More than are looked through: how many there are."""

    def __init__(self, given):
        self.given = given


class InvalidStart(HouseError):
    """What is no start of the house."""

    def __init__(self, index):
        self.index = index


class InvalidStill(HouseError):
    """What is no still plan of the house."""

    def __init__(self, index):
        self.index = index


class InvalidChoice(HouseError):
    """What is no choice of the house."""

    def __init__(self, index):
        self.index = index


class InvalidWeights(HouseError):
    """What are no weights."""

    def __init__(self, index):
        self.index = index


class InvalidWorths(HouseError):
    """What are no worths."""

    def __init__(self, index):
        self.index = index


class InvalidBounds(HouseError):
    """What are no bounds."""

    def __init__(self, index):
        self.index = index


class InvalidLog(HouseError):
    """What is no log of the sketch."""

    def __init__(self, index):
        self.index = index


class InvalidGoals(HouseError):
    """What are no goals of the house."""

    def __init__(self, index):
        self.index = index


class InvalidHold(HouseError):
    """What is no hold at the mark."""

    def __init__(self, index):
        self.index = index


class InvalidRows(HouseError):
    """What are no rows of one length."""

    def __init__(self, index):
        self.index = index


class InvalidOrder(HouseError):
    """What is no order of the stands."""

    def __init__(self, index):
        self.index = index


class InvalidDice(HouseError):
    """What are no dice."""

    def __init__(self, index):
        self.index = index


class InvalidWay(HouseError):
    """What is no way of the house."""

    def __init__(self, index):
        self.index = index


class InvalidText(HouseError):
    """A text that is not of the told form."""

    def __init__(self, line, place):
        self.line = line
        self.place = place


class TwiceNamed(HouseError):
    """A name that stands there already."""

    def __init__(self, line, place):
        self.line = line
        self.place = place


class UnknownName(HouseError):
    """A name of nothing that is there."""

    def __init__(self, line, place):
        self.line = line
        self.place = place


class NoSum(HouseError):
    """Chances whose sum is not 1."""

    def __init__(self, line, place):
        self.line = line
        self.place = place


class CannotKeep(HouseError):
    """Bounds that no plan keeps, with a reason."""

    def __init__(self, weights, worths):
        self.weights = weights
        self.worths = worths


class NotTwo(HouseError):
    """A house of another number of pays than two."""


class NotBest(HouseError):
    """A choice that some deed betters."""


class Broken(HouseError):
    """A change behind which the plan would not keep the bounds."""


class NothingToUndo(HouseError):
    """No change is left to take back."""
