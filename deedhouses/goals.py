"""Goals: the chances of coming to them, the greatest and the least ones."""

from deedhouses.equations import solved
from deedhouses.errors import InvalidGoals
from deedhouses.houses import check_house, mean_behind
from deedhouses.plans import check_choice
from deedhouses.ratios import NOUGHT, ONE, dot, is_below, is_within, least_index, minus


def is_goal_row(house, value):
    """Whether any value is goals of the house."""
    check_house(house)
    return fits_goals(house, value)


def fits_goals(house, value):
    """Whether any value is goals of what is known to be a house."""
    if not isinstance(value, tuple) or len(value) == 0:
        return False
    return wrong_goal(house, value) is None


def coming_of(house, goals, choice):
    """For each stand the chance with which the choice comes to the goals from there."""
    check_house(house)
    check_goals(house, goals)
    check_choice(house, choice)
    return chances_of(house, goals, choice)


def chances_of(house, goals, choice):
    """The chances of coming, where all arguments are known to be right."""
    deeds = [stand[deed][0] for stand, deed in zip(house[2], choice)]
    chances = [ONE if at in goals else NOUGHT for at in range(len(deeds))]
    asked = [at for at in able_stands(deeds, goals) if at not in goals]
    matrix, rights = [], []
    for at in asked:
        row = dict(deeds[at])
        matrix.append([minus(ONE if to == at else NOUGHT, row.get(to, NOUGHT)) for to in asked])
        rights.append([dot([row.get(goal, NOUGHT) for goal in goals], [ONE] * len(goals))])
    for at, answer in zip(asked, solved(matrix, rights)):
        chances[at] = answer[0]
    return tuple(chances)


def able_stands(deeds, goals):
    """The stands, goals among them, from which some goal can be reached by the one deed of each stand."""
    able = list(goals)
    # A stand that leads to the goals by way of others is found only when these are in the list.
    grown = True
    while grown:
        more = [at for at, row in enumerate(deeds) if at not in able and leads_to(row, able)]
        able = able + more
        grown = len(more) > 0
    return able


def leads_to(chances, stands):
    """Whether the deed with these CHANCES may lead to one of the stands."""
    return any([to in stands for to, _ in chances])


def greatest_coming(house, goals):
    """The row of the greatest chances and a choice that has them all."""
    check_house(house)
    check_goals(house, goals)
    return greatest_from(house, goals)


def greatest_from(house, goals):
    """The greatest chances and a choice that has them, where both arguments are known to be right."""
    return settled(house, goals, (0,) * len(house[2]), -1)


def settled(house, goals, choice, sign):
    """The chances of coming, with their choice, when no turn changes the choice any more."""
    chances = chances_of(house, goals, choice)
    better = turned(house, goals, choice, chances, sign)
    while better != choice:
        choice = better
        chances = chances_of(house, goals, choice)
        better = turned(house, goals, choice, chances, sign)
    return chances, choice


def turned(house, goals, choice, chances, sign):
    """The choice with the first deed with the least mean of SIGN times the chances, where that is below the old one."""
    changed = []
    for at, stand in enumerate(house[2]):
        means = [signed(sign, mean_behind(deed[0], chances)) for deed in stand]
        first = least_index(means)
        is_better = at not in goals and is_below(means[first], signed(sign, chances[at]))
        changed.append(first if is_better else choice[at])
    return tuple(changed)


def signed(sign, number):
    """The fraction, times 1 or -1."""
    return sign * number[0], number[1]


def least_coming(house, goals):
    """The row of the least chances and a choice that has them all."""
    check_house(house)
    check_goals(house, goals)
    return least_from(house, goals)


def least_from(house, goals):
    """The least chances and a choice that has them, where both arguments are known to be right."""
    return settled(house, goals, avoiding_choice(house, never_stands(house, goals)), 1)


def never_stands(house, goals):
    """The stands from which some plan never comes: the greatest lot each stand of which can be stayed in."""
    stands = house[2]
    lot = [at for at in range(len(stands)) if at not in goals]
    kept = [at for at in lot if staying_deeds(stands[at], lot)]
    while kept != lot:
        lot = kept
        kept = [at for at in lot if staying_deeds(stands[at], lot)]
    return lot


def staying_deeds(stand, lot):
    """The indexes of the stand's deeds that lead to the lot alone."""
    return [at for at, deed in enumerate(stand) if all([to in lot for to, _ in deed[0]])]


def avoiding_choice(house, lot):
    """The choice that stays in the lot where it stands, and does deed 0 elsewhere."""
    choice = []
    for at, stand in enumerate(house[2]):
        choice.append(staying_deeds(stand, lot)[0] if at in lot else 0)
    return tuple(choice)


def ranks_of(house, goals):
    """For each stand the least number of steps in which each plan may have come to where rank 0 is."""
    check_house(house)
    check_goals(house, goals)
    return ranks_from(house, goals)


def ranks_from(house, goals):
    """The ranks, where both arguments are known to be right."""
    stands = house[2]
    reached = list(goals) + never_stands(house, goals)
    ranks = [0] * len(stands)
    steps = 0
    while len(reached) < len(stands):
        steps += 1
        more = [at for at in range(len(stands)) if at not in reached and is_led(stands[at], reached)]
        for at in more:
            ranks[at] = steps
        reached = reached + more
    return tuple(ranks)


def is_led(stand, reached):
    """Whether each deed of the stand may lead to one of the stands that are reached."""
    return all([leads_to(deed[0], reached) for deed in stand])


def sure_stands(house, goals):
    """The stands whose greatest chance is 1, ascending."""
    check_house(house)
    check_goals(house, goals)
    return ones_of(greatest_from(house, goals)[0])


def certain_stands(house, goals):
    """The stands whose least chance is 1, ascending."""
    check_house(house)
    check_goals(house, goals)
    return ones_of(least_from(house, goals)[0])


def ones_of(chances):
    """The indexes at which the chance is 1."""
    return tuple([at for at, chance in enumerate(chances) if chance == ONE])


def wrong_goal(house, value):
    """The index of the first element that is no stand or not above the one before it; None."""
    least = 0
    for at, goal in enumerate(value):
        if not is_within(goal, least, len(house[2]) - 1):
            return at
        least = goal + 1
    return None


def check_goals(house, goals):
    """Raises InvalidGoals for no ascending tuple of one or more stands."""
    if not isinstance(goals, tuple) or len(goals) == 0:
        raise InvalidGoals(None)
    at = wrong_goal(house, goals)
    if at is not None:
        raise InvalidGoals(at)
