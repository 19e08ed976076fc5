"""A console: a desk that is spoken to in lines of text."""

from deedhouses.bounds import most
from deedhouses.desks import Desk
from deedhouses.errors import NotADesk, UnknownName
from deedhouses.language import house_text, number_text
from deedhouses.lines import only_line
from deedhouses.runs import run
from deedhouses.wordings import bounds_text, plan_text, start_text, told_bounds, told_plan, told_start

WORDS = ("begin ", "wish ", "plan ", "settle ", "undo", "show ", "best ", "run ")
SHOWN = ("house", "begin", "wish", "plan", "pays")


class Console:
    """What is said to a desk, line by line, and what it answers."""

    def __init__(self, desk):
        if not isinstance(desk, Desk):
            raise NotADesk(desk)
        self.desk = desk

    def say(self, line):
        """The answer to a line."""
        told = only_line(line)
        word = told.one_of(WORDS)
        if word == "show ":
            return shown(self.desk, told)
        if word == "best ":
            return best_text(self.desk, told)
        if word == "run ":
            return run_text(self.desk, told)
        change(self.desk, word, told)
        return "done"


def change(desk, word, line):
    """Changes the desk as the rest of the line tells."""
    if word == "begin ":
        desk.begin(told_start(desk.named, line))
    elif word == "wish ":
        desk.wish(told_bounds(desk.named, line))
    elif word == "settle ":
        desk.settle(told_bounds(desk.named, line))
    elif word == "plan ":
        desk.follow(told_plan(desk.named, line))
    else:
        line.end()
        desk.undo()


def shown(desk, line):
    """What is shown of the desk."""
    thing = line.one_of(SHOWN)
    line.end()
    if thing == "house":
        return house_text(desk.named)
    if thing == "begin":
        return start_text(desk.named, desk.start)
    if thing == "wish":
        return bounds_text(desk.named, desk.bounds)
    if thing == "plan":
        return plan_text(desk.named, desk.still)
    names = desk.named[1][0]
    return ", ".join([name + " " + number_text(number) for name, number in zip(names, desk.pays)])


def best_text(desk, line):
    """The greatest number of the named pay under the desk's bounds."""
    name, place = line.name()
    line.end()
    house, (names, _, _) = desk.named
    if name not in names:
        raise UnknownName(line.index, place)
    # The desk's own plan keeps the bounds, so there is a greatest number.
    return number_text(most(house, desk.start, desk.bounds, names.index(name))[1])


def run_text(desk, line):
    """The names of the run's stands and deeds, step by step."""
    dice = told_dice(line)
    house, (_, stands, deeds) = desk.named
    way = run(house, desk.start, ("still", desk.still), dice)
    steps = [stands[at] + " " + deeds[at][deed] + " " + stands[to] for at, deed, to in way]
    return ", ".join(steps) if steps else "none"


def told_dice(line):
    """The numbers that the rest of a line tells: one, and two more as long as they go on."""
    dice = [line.number()]
    while len(dice) < 121 and line.is_next(" "):
        for _ in range(2):
            line.word(" ")
            dice.append(line.number())
    line.end()
    return tuple(dice)
