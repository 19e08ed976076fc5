"""What a player has in mind while it goes: all that its odds may still hang on.

That is a mind of a minded plan, and for a told plan all that has been so far, as long as some told
memory begins so; behind that, and for a still plan, there is nothing, which is told by ().
"""


def first_mind(player, stand):
    """What the player has in mind when it begins at the stand."""
    kind, plan = player
    if kind == "minded":
        return 0
    return kept(plan[0], (stand,)) if kind == "told" else ()


def kept(lists, memory):
    """The memory, if some told one begins so."""
    many = len(memory)
    return memory if any([told[:many] == memory for told, _ in lists]) else ()


def mind_behind(player, mind, stand, deed, to):
    """What the player has in mind when the deed that it does at the stand leads on."""
    kind, plan = player
    if kind == "minded":
        return plan[2][stand][deed][mind]
    return kept(plan[0], mind + (deed, to)) if mind else ()


def odds_in(player, mind, stand):
    """The odds by which the player does the stand's deeds."""
    kind, plan = player
    if kind == "still":
        return plan[stand]
    if kind == "minded":
        return plan[1][stand][mind]
    return dict(plan[0]).get(mind, plan[1][stand])


def first_states(start, player):
    """The pairs of a stand and what the player has in mind there, where it may begin, with their chances."""
    return [((at, first_mind(player, at)), chance) for at, chance in enumerate(start) if chance[0] != 0]


def ways_on(house, player, state):
    """(DEED, ODD, NEXT, CHANCE, STATE) of each way on from a state, with a chance above 0, ascending."""
    at, mind = state
    found = []
    for deed, odd in enumerate(odds_in(player, mind, at)):
        if odd[0] != 0:
            for to, chance in house[2][at][deed][0]:
                found.append((deed, odd, to, chance, (to, mind_behind(player, mind, at, deed, to))))
    return found
