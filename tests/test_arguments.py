"""Points [3] to [5]: names of parameters, wrong arguments and their order, equal calls."""

import copy
import importlib
import inspect
import unittest
from itertools import combinations

from deedhouses import errors
from deedhouses.plans import minded_of
from deedhouses.shares import shares_of
from tests.helpers import (
    HALF, HUGE, NIL, ONE, QUARTER, SHOP, TOSSED, TWO, bent, draw_house, draw_minded, draw_row, draw_start, draw_still,
    strange_values,
)
import random

# For each file the functions of the interface with their parameters.
STAGES = {
    "houses": ("is_house(value)", "is_start(house, value)", "weighted(house, weights)"),
    "plans": (
        "is_still(house, value)", "is_choice(house, value)", "is_minded(house, value)", "still_of(house, choice)",
        "choice_of(house, still)", "doubled(house, still)", "minded_of(house, still)",
    ),
    "worths": (
        "worths_of(house, still)", "pays_of(house, start, still)", "steps_of(house, start, still, many)",
        "minded_pays(house, start, minded)", "minded_steps(house, start, minded, many)",
    ),
    "shares": (
        "are_shares(house, start, value)", "shares_of(house, start, still)", "minded_shares(house, start, minded)",
        "pays_of_shares(house, start, shares)", "still_of_shares(house, start, shares)",
    ),
    "best": ("gaps_of(house, weights, worths)", "turn(house, weights, choice)", "best(house, weights)"),
    "bounds": (
        "does_keep(house, start, bounds, still)", "is_reason(house, start, bounds, value)", "keep(house, start, bounds)",
        "most(house, start, bounds, pay)", "plain_keep(house, start, bounds)",
    ),
    "mixes": ("is_mix(house, value)", "mix_pays(house, start, mix)", "mix_of(house, start, still)"),
    "polygons": ("corners(house, start)", "place(house, start, pair)"),
    "goals": (
        "is_goal_row(house, value)", "coming_of(house, goals, choice)", "greatest_coming(house, goals)",
        "least_coming(house, goals)", "ranks_of(house, goals)", "sure_stands(house, goals)", "certain_stands(house, goals)",
    ),
    "timed": ("timed_worths(house, weights, many)", "timed_choices(house, weights, many)"),
    "stretches": (
        "is_vague(value)", "fits(vague, house)", "vague_of(house)", "filled(stretches, worths, is_greatest)",
        "corners(stretches)", "corner_houses(vague, choice)",
    ),
    "worst": (
        "worst_worths(vague, weights, still)", "best_worths(vague, weights, still)", "worst_house(vague, weights, still)",
        "best_house(vague, weights, still)", "safest(vague, weights)", "surely_keeps(vague, start, bounds, still)",
        "not_kept(vague, start, bounds, still)",
    ),
    "logs": ("is_sketch(value)", "counts_of(sketch, log)", "reach(sketch, log, allowance)"),
    "better": (
        "lead(vague, weights, one, two, start)", "least_more(vague, weights, choice, stand, deed)",
        "is_surely_better(vague, weights, choice, stand, deed)",
    ),
    "moves": (
        "gain_room(house, weights, choice, stand, deed)", "chance_room(house, weights, choice, stand, deed, source, target)",
    ),
    "sights": (
        "is_dim(value)", "is_tree(dim, mark, many, value)", "is_lookout(dim, many, value)", "holds_of(dim, start)",
        "behind(dim, mark, hold, deed)", "row_of(dim, weights, mark, many, tree)", "lookout_pays(dim, start, many, lookout)",
    ),
    "sightbest": (
        "best_left(dim, weights, mark, many, hold)", "best_lookout(dim, start, weights, many)", "rows_left(dim, weights, many)",
        "parted(rows, row)",
    ),
    "sightbounds": (
        "is_sight_mix(dim, many, value)", "sight_mix_pays(dim, start, many, mix)", "sight_keep(dim, start, bounds, many)",
    ),
    "language": (
        "is_named(value)", "read_house(text)", "house_text(named)", "named_of(house)", "reordered(named, order)",
    ),
    "wordings": (
        "read_start(named, text)", "start_text(named, start)", "read_bounds(named, text)", "bounds_text(named, bounds)",
        "read_plan(named, text)", "plan_text(named, still)",
    ),
    "players": (
        "is_told(house, value)", "is_player(house, value)", "player_pays(house, start, player)",
        "player_shares(house, start, player)", "player_steps(house, start, player, many)",
    ),
    "runs": (
        "run(house, start, player, dice)", "way_chance(house, start, player, way)", "box_of(house, start, player, way)",
        "way_pays(house, way)", "count_ways(house, start, player, many)", "ways(house, start, player, many)",
    ),
    "misses": (
        "sketch_of(house)", "mean_counts(house, start, player, many)", "miss_bound(house, start, player, many, allowance)",
        "miss_chance(house, start, player, many, allowance)",
    ),
    "certificates": (
        "certify_best(house, weights)", "certify_keep(house, start, bounds)", "certify_most(house, start, bounds, pay)",
        "certify_place(house, start, pair)", "certify_coming(house, goals, stand, number)",
        "certify_always(house, goals, stand, number)",
    ),
    "certifyvague": (
        "certify_safe(vague, weights, start, number)", "certify_surely(vague, start, bounds, still)",
        "certify_change(vague, weights, choice, stand, deed)", "certify_move(house, weights, choice, stand, deed, number)",
    ),
    "certifysights": (
        "certify_sight_best(dim, start, weights, many)", "certify_parted(rows, row)", "certify_rows_left(dim, weights, many)",
        "certify_sight_keep(dim, start, bounds, many)",
    ),
    "certifyruns": (
        "certify_ways(house, start, player, many)", "certify_missed(house, start, player, many, allowance)",
        "certify_same(house, start, player)",
    ),
}

VAGUE = (HALF, 2, (
    ((((0, QUARTER, (3, 4)), (1, QUARTER, (3, 4))), (TWO, NIL)), (((0, ONE, ONE),), (ONE, ONE))),
    ((((0, HALF, ONE), (1, NIL, HALF)), (NIL, NIL)),),
))
SKETCH = (HALF, 2, (
    ((((0, NIL, ONE), (1, NIL, ONE)), (TWO, NIL)), (((0, NIL, ONE),), (ONE, ONE))), ((((0, NIL, ONE),), (NIL, NIL)),),
))
TREE = (1, ((), ()))
LOOKOUT = (TREE, (0, ((), ())))
NAMED = (SHOP, (("money", "calm"), ("shop", "home"), (("work", "rest"), ("sleep",))))
TEXT = "share 1/2\npays money, calm\nstand shop\ndeed work: 1/2 shop, 1/2 home gets 2, 0\nstand home\ndeed sleep: 1 shop gets 0, 0"


def given(*values):
    """Values that are told as they are."""
    return [(value, "given") for value in values]


# Values for a house of two stands (two deeds, one deed) and two pays, each with the index that is told of it.
SOME = [None, True, 7, "ab", (), [], {}, (1, 2, 3), ((1, 2),), 10 ** 399]
WRONG = {
    "house": ("InvalidHouse", given(*SOME, list(SHOP), (ONE, *SHOP[1:]), SHOP[2])),
    "start": ("InvalidStart", [(value, None) for value in [*SOME, [ONE, NIL], (HALF, QUARTER), (ONE, ONE), (NIL, NIL)]] + [
        (((2, 4), None), 0), ((ONE, None), 1), ((None, ONE), 0), ((TWO, (-1, 1)), 1), (((1, 0), ONE), 0),
        ((ONE, (False, 1)), 1), ((HALF, [1, 2]), 1), ((HALF, (1, 2, 3)), 1), ((ONE, (0, 7)), 1), ((-1, "a"), 0),
    ]),
    "still": ("InvalidStill", [(value, None) for value in [*SOME, [(ONE, NIL), (ONE,)], ((ONE, NIL),)]] + [
        (((HALF, QUARTER), None), 0), (((HALF, HALF), (NIL,)), 1), (((HALF, HALF), [ONE]), 1), ((None, (ONE,)), 0),
        (((ONE, (0, 3)), (ONE,)), 0), (((ONE, NIL), ((True, 1),)), 1), (((ONE,), (ONE,)), 0), (((ONE, NIL), ONE), 1),
    ]),
    "choice": ("InvalidChoice", [(value, None) for value in [*SOME, [0, 0], (0,)]] + [
        ((2, 0), 0), ((0, 1), 1), ((True, 0), 0), ((0, False), 1), ((-1, -1), 0), ((1, "0"), 1), ((1, None), 1),
    ]),
    "minded": ("InvalidMinded", given(*SOME, TOSSED, list(minded_of(SHOP, TOSSED)))),
    "weights": ("InvalidWeights", [(value, None) for value in [*SOME, [ONE, ONE], (ONE,)]] + [
        ((1, 2), 0), ((ONE, 2), 1), ((None, None), 0), ((ONE, None), 1), (((2, 2), ONE), 0), ((ONE, (True, 1)), 1),
    ]),
    "worths": ("InvalidWorths", [(value, None) for value in [*SOME, [ONE, ONE], (ONE,)]] + [
        ((1, 2), 0), ((ONE, 2), 1), ((None, ONE), 0), ((ONE, None), 1), (((1, -1), ONE), 0), ((ONE, (True, 1)), 1),
    ]),
    "shares": ("InvalidShares", given(*SOME, (((8, 5), NIL), (NIL,)), ((TWO, NIL), (ONE,)))),
    "many": ("InvalidNumber", given(None, True, False, -1, 61, "3", (3,), (3, 1), [], 10 ** 399)),
    "bounds": ("InvalidBounds", [(value, None) for value in [*SOME, [None, None], (None,), (ONE, ONE, ONE)]] + [
        ((1, 2), 0), ((None, 2), 1), ((None, False), 1), (((2, 2), ONE), 0), ((ONE, (1, 0)), 1), ((ONE, ()), 1),
    ]),
    "pay": ("InvalidNumber", given(None, True, False, -1, 2, "0", (0,), (0, 1), [], 10 ** 399)),
    "mix": ("InvalidMix", given(*SOME, ((HALF, (0, 0)),), ((HALF, (1, 0)), (HALF, (0, 0))))),
    "pair": ("InvalidPair", given(*SOME, (ONE,), (ONE, ONE, ONE), (ONE, (2, 2)), (1, 1), [ONE, ONE])),
    "goals": ("InvalidGoals", [(value, None) for value in (None, True, 7, "ab", (), [], {}, [0], 10 ** 399)] + [
        ((2,), 0), ((0, 2), 1), ((0, 0), 1), ((1, 0), 1), ((-1,), 0), ((True,), 0), ((0, True), 1), ((0, 1, 1), 2),
        (("0", 1), 0), ((0, None), 1), ((0, 1, 2), 2), ((1, 1, "a"), 1),
    ]),
}
NUMBERS = [None, True, False, -1, 8, 10 ** 399, "0", (0,), (0, 1), [], {}]
CHANCES = [None, True, 0, 1, "0", (0,), [], (2, 4), (1, 0), (True, 1), (0, 1, 2)]
WRONG.update({
    "vague": ("InvalidVague", given(*SOME, SHOP, [*VAGUE], VAGUE[2], (ONE, *VAGUE[1:]), (HALF, 3, VAGUE[2]))),
    "sketch": ("InvalidVague", given(*SOME, SHOP, VAGUE, [*SKETCH])),
    "one": WRONG["still"], "two": WRONG["still"],
    "stand": ("InvalidNumber", given(*NUMBERS, 2)),
    "deed": ("InvalidNumber", given(*NUMBERS, 2)),
    "source": ("InvalidNumber", given(*NUMBERS, 2)),
    "target": ("InvalidNumber", given(*NUMBERS, 2, 0)),
    "mark": ("InvalidNumber", given(*NUMBERS, 2)),
    "log": ("InvalidLog", [(value, None) for value in [None, True, 7, "ab", [], {}, ((0, 0, 0),) * 201]] + [
        ((None,), 0), (((0, 0, 0), (0, 0)), 1), (((0, 1, 1),), 0), (((2, 0, 0),), 0), (((0, 2, 0),), 0), (((0, False, 0),), 0),
        (((0, 0, 0), [0, 0, 0]), 1), (((0, 0, 1), (1, 0, 1), (0, 0, 0)), 1), (((0, 0, 0),) * 199 + ((0, 0, -1),), 199),
    ]),
    "allowance": ("InvalidNumber", given(*CHANCES, (-1, 2), (-1, 1))),
    "stretches": ("InvalidStretches", given(*SOME, ((0, NIL, HALF),), ((8, ONE, ONE),), [(0, ONE, ONE)])),
    "is_greatest": ("InvalidFlag", given(None, 0, 1, "True", (), [], {}, (True,), NIL, ONE)),
    "dim": ("InvalidDim", given(*SOME, SHOP, (SHOP, (0, 0)), (SHOP, (0,)), (SHOP, (0, 2)), [SHOP, (0, 1)])),
    "hold": ("InvalidHold", [(value, None) for value in [*SOME, [ONE, NIL], (ONE,)]] + [
        ((None, NIL), 0), ((ONE, None), 1), ((ONE, ONE), 1), (((-1, 2), NIL), 0), ((ONE, (0, 2)), 1), ((ONE, (-1, 2)), 1),
        (((2, 4), ONE), 0), ((1, 0), 0), ((ONE, 0), 1), ((ONE, (False, 1)), 1),
    ]),
    "tree": ("InvalidTree", given(*SOME, (0, ()), (2, ((), ())), [1, ((), ())], (True, ((), ())), (1, ((),)))),
    "lookout": ("InvalidLookout", given(*SOME, TREE, (TREE,), (TREE, TREE), [TREE, (0, ((), ()))])),
    "rows": ("InvalidRows", [(value, None) for value in (None, True, 7, "ab", (), [], {}, 10 ** 399, ((ONE,),) * 61)] + [
        ((1, 2), 0), ((None,), 0), ((ONE,), 0), (((ONE,), (ONE, ONE)), 1), (((ONE, NIL), (ONE, (2, 2))), 1), (((NIL,) * 9,), 0),
        (((),), 0), (((ONE,), [ONE]), 1), (((ONE,), (ONE,), None), 2),
    ]),
    "row": ("InvalidRow", given(*SOME, (ONE,), [ONE, ONE], (ONE, ONE, ONE), (ONE, (2, 2)), (ONE, 1))),
    "named": ("InvalidNamed", given(*SOME, SHOP, list(NAMED), (SHOP, NAMED[1][:2]), (SHOP, (("a", "a"), *NAMED[1][1:])))),
    "order": ("InvalidOrder", [(value, None) for value in [*SOME, [0, 1], (0,), (0, 1, 2)]] + [
        ((2, 0), 0), ((0, 0), 1), ((1, 1), 1), ((True, 0), 0), ((1, False), 1), ((-1, 0), 0), ((1, None), 1), (("0", 1), 0),
    ]),
})
WRONG.update({
    "number": ("InvalidNumber", given(*CHANCES)),
    "player": ("InvalidPlayer", given(*SOME, TOSSED, ("told", TOSSED), ["still", TOSSED], ("still", TOSSED, 0), (b"still", TOSSED))),
    "dice": ("InvalidDice", [(value, None) for value in [None, True, 7, "ab", (), [], {}, (NIL, NIL), (NIL,) * 123, [NIL]]] + [
        ((ONE,), 0), ((NIL, HALF, (3, 2)), 2), ((NIL, (-1, 2), ONE), 1), ((0, NIL, NIL), 0), ((NIL, NIL, (2, 4)), 2), ((1, 2, 3), 0),
        ((NIL, NIL, (False, 1)), 2), ((NIL, None, ONE), 1), (((1, 0), NIL, NIL), 0), (([0, 1],), 0),
    ]),
    "way": ("InvalidWay", [(value, None) for value in [None, True, 7, "ab", [], {}, ((0, 0, 0),) * 61, [(0, 0, 0)]]] + [
        ((None,), 0), (((0, 0, 0), (1, 0, 0)), 1), (((0, 1, 1),), 0), (((0, 0, 1), (1, 1, 0)), 1), (((0, False, 0),), 0), ((0, 0, 0), 0),
        (((0, 0, 0), (0, 0, 1), [1, 0, 0]), 2), (((0, 0, 0, 0),), 0), (((2, 0, 0),), 0),
    ]),
})
# What is told of a parameter in one file or of one function alone.
STEPS = [*NUMBERS, 5, 31, 61]
OTHERS = {
    ("timed", "many"): ("InvalidNumber", given(None, True, -1, 31, "3", (3,), (3, 1), [], 10 ** 399)),
    ("stretches", "worths"): ("InvalidWorths", [
        (value, None) for value in (None, True, 7, "ab", (), [], {}, (ONE,), (ONE,) * 9, [ONE, ONE])
    ] + [
        ((1, 2), 0), ((ONE, 2), 1), ((ONE, NIL, None), 2), ((ONE, ONE, (2, 2)), 2), ((None, ONE), 0), ((ONE,) * 7 + ((True, 1),), 7),
    ]),
    ("better", "deed"): ("InvalidNumber", given(*NUMBERS, 2, 1)),
    ("sights", "many"): ("InvalidNumber", [(value, "given") for value in STEPS]),
    ("sightbest", "many"): ("InvalidNumber", [(value, "given") for value in STEPS]),
    ("sightbounds", "many"): ("InvalidNumber", [(value, "given") for value in STEPS]),
    ("sightbounds", "mix"): ("InvalidMix", given(*SOME, ((HALF, LOOKOUT),), ((HALF, LOOKOUT), (HALF, LOOKOUT)), [(ONE, LOOKOUT)])),
    ("language", "text"): ("InvalidText", [(value, (None, None)) for value in SOME if value != "ab"] + [
        ("ab", (0, 0)), (TEXT[:-1], (5, 27)),
    ]),
    ("wordings", "text"): ("InvalidText", [(value, (None, None)) for value in SOME if value != "ab"] + [
        ("", (0, 0)), ("-", (0, 0)), (" none", (0, 0)), ("Shop: 1 work", (0, 0)),
    ]),
    ("ways", "many"): ("InvalidNumber", given(None, True, -1, 21, "3", (3,), (3, 1), [], 10 ** 399)),
    ("miss_chance", "many"): ("InvalidNumber", given(None, True, -1, 21, "3", (3,), (3, 1), [], 10 ** 399)),
    ("certify_ways", "many"): ("InvalidNumber", given(None, True, -1, 21, "3", (3,), (3, 1), [], 10 ** 399)),
    ("certifysights", "many"): ("InvalidNumber", [(value, "given") for value in STEPS]),
    ("certify_change", "deed"): ("InvalidNumber", given(*NUMBERS, 2, 1)),
    ("certify_missed", "allowance"): ("InvalidNumber", given(*CHANCES, (-1, 2), (-1, 1), NIL, (0, 2))),
    ("misses", "allowance"): ("InvalidNumber", given(*CHANCES, (-1, 2), (-1, 1), NIL, (0, 2))),
}
RIGHT = {
    "house": SHOP, "start": (ONE, NIL), "still": TOSSED, "choice": (1, 0), "weights": (ONE, (-1, 2)), "worths": (TWO, HALF),
    "minded": (2, ((TOSSED[0], (ONE, NIL)), ((ONE,), (ONE,))), (((1, 0), (0, 0)), ((0, 1),))), "many": 3, "value": TOSSED,
    "shares": shares_of(SHOP, (ONE, NIL), TOSSED), "bounds": (ONE, None), "pay": 1, "pair": (TWO, TWO), "goals": (1,),
    "mix": ((HALF, (0, 0)), (HALF, (1, 0))), "vague": VAGUE, "sketch": SKETCH, "one": TOSSED, "two": TOSSED, "stand": 0,
    "deed": 0, "source": 0, "target": 1, "log": ((0, 0, 0), (0, 0, 1), (1, 0, 0), (0, 0, 0)), "allowance": HALF,
    "stretches": VAGUE[2][0][0][0], "is_greatest": True, "dim": (SHOP, (0, 1)), "mark": 0, "hold": (TWO, NIL), "tree": TREE,
    "lookout": LOOKOUT, "rows": ((ONE, NIL), (HALF, HALF)), "row": (HALF, HALF), "named": NAMED, "order": (1, 0), "text": TEXT,
    "player": ("told", ((((0,), TOSSED[0]), ((0, 0, 1), (ONE,))), TOSSED)), "dice": (NIL, HALF, QUARTER), "way": ((0, 0, 1), (1, 0, 0)),
    "number": (1, 9),
}
OTHER_RIGHTS = {
    ("moves", "choice"): (0, 0), ("sights", "many"): 1, ("sightbest", "many"): 1, ("sightbounds", "many"): 1,
    ("sightbounds", "mix"): ((ONE, LOOKOUT),), ("read_start", "text"): "1/2 shop, 1/2 home",
    ("certify_move", "choice"): (0, 0), ("certifysights", "many"): 1, ("read_bounds", "text"): "calm at least 1", ("read_plan", "text"): "shop: 1/2 work, 1/2 rest",
}
# Parameters that any value may be passed for: the answer is True or False.
WHATEVER = {("fits", "house")}


def own_of(told, name, parameter, other):
    """What is told of a parameter of the one function, or of all those of its file, or of all functions."""
    file, call = name.split(".")
    return told.get((call, parameter)) or told.get((file, parameter)) or other[parameter]


def wrong_of(name, parameter):
    return own_of(OTHERS, name, parameter, WRONG)


def right_of(name, parameters):
    """Right arguments of a function."""
    return {each: own_of(OTHER_RIGHTS, name, each, RIGHT) for each in parameters}


def is_whatever(name, parameter):
    return parameter == "value" or (name.split(".")[1], parameter) in WHATEVER


def functions():
    """(NAME, FUNCTION, PARAMETERS) of all functions of the interface that are there."""
    for file, lines in STAGES.items():
        module = importlib.import_module("deedhouses." + file)
        for line in lines:
            name, _, rest = line[:-1].partition("(")
            yield file + "." + name, getattr(module, name), rest.split(", ")


class ArgumentsTest(unittest.TestCase):
    def asked(self, name, call, arguments, wrong):
        """The call raises what is told for the first of the wrong arguments, by position and by name."""
        kind, attribute, value = wrong
        for asked in (lambda: call(*arguments.values()), lambda: call(**arguments)):
            with self.assertRaises(errors.HouseError, msg=(name, arguments)) as caught:
                asked()
            self.assertEqual(type(caught.exception).__name__, kind, (name, arguments))
            if attribute == "given":
                self.assertIs(caught.exception.given, value, (name, arguments))
            elif kind == "InvalidText":
                self.assertEqual((caught.exception.line, caught.exception.place), attribute, (name, arguments))
            else:
                self.assertEqual(caught.exception.index, attribute, (name, arguments))
                self.assertNotIsInstance(caught.exception.index, bool)

    def test_where_they_are_and_what_they_take(self):
        for name, call, parameters in functions():
            self.assertEqual(list(inspect.signature(call).parameters), parameters, name)
            self.assertEqual(call.__module__, "deedhouses." + name.split(".")[0])

    def test_one_wrong_argument(self):
        for name, call, parameters in functions():
            for parameter in parameters:
                if is_whatever(name, parameter):
                    continue
                kind, values = wrong_of(name, parameter)
                for value, attribute in values:
                    arguments = right_of(name, parameters)
                    arguments[parameter] = value
                    self.asked(name, call, arguments, (kind, attribute, value))

    def test_several_wrong_arguments(self):
        for name, call, parameters in functions():
            able = [each for each in parameters if not is_whatever(name, each)]
            for many in range(2, len(able) + 1):
                for wrong in combinations(able, many):
                    for turn in range(7):
                        arguments = right_of(name, parameters)
                        for each in wrong:
                            values = wrong_of(name, each)[1]
                            arguments[each] = values[(turn * 5 + len(each)) % len(values)][0]
                        kind, values = wrong_of(name, wrong[0])
                        value, attribute = values[(turn * 5 + len(wrong[0])) % len(values)]
                        self.asked(name, call, arguments, (kind, attribute, value))

    def test_any_value_tells_no_other_error(self):
        for name, call, parameters in functions():
            for parameter in parameters:
                for value in [*strange_values(), *list(bent(RIGHT[parameter]))[:150]]:
                    arguments = right_of(name, parameters)
                    arguments[parameter] = value
                    before = copy.deepcopy(arguments)
                    try:
                        call(**arguments)
                    except errors.HouseError as error:
                        self.assertFalse(is_whatever(name, parameter), (name, value))
                        more = LATER.get((name.split(".")[0], parameter), LATER.get(parameter, ()))
                        told = {wrong_of(name, parameter)[0], *more}
                        self.assertIn(type(error).__name__, told, (name, value))
                    self.assertEqual(arguments, before)

    def test_a_question_is_answered_by_true_or_false(self):
        for name, call, parameters in functions():
            if is_whatever(name, parameters[-1]):
                for value in [RIGHT["value"], *strange_values()]:
                    arguments = right_of(name, parameters)
                    arguments[parameters[-1]] = value
                    self.assertIs(type(call(**arguments)), bool, (name, value))

    def test_equal_calls_return_equal_results(self):
        told = []
        for _ in range(3):
            round_told = []
            for name, call, parameters in functions():
                arguments = copy.deepcopy(right_of(name, parameters))
                round_told.append(repr(call(**arguments)))
                self.assertEqual(arguments, right_of(name, parameters))
            told.append(round_told)
        self.assertEqual(told[0], told[1])
        self.assertEqual(told[0], told[2])

    def test_tuples_are_returned(self):
        for name, call, parameters in functions():
            self.assertTrue(is_told_form(call(**right_of(name, parameters))), name)

    def test_what_is_returned_may_be_passed(self):
        source = random.Random(4)
        house = draw_house(11, 3, 3, 2, share=(4, 5))
        changed = importlib.import_module("deedhouses.houses").weighted(house, draw_row(source, 2))
        still = draw_still(1, changed)
        start = draw_start(1, changed)
        worths = importlib.import_module("deedhouses.worths").steps_of(changed, start, still, 60)
        again = importlib.import_module("deedhouses.houses").weighted(changed, worths)
        minded = draw_minded(3, again, 2)
        told = importlib.import_module("deedhouses.shares").minded_shares(again, start, minded)
        self.assertIs(importlib.import_module("deedhouses.shares").are_shares(again, start, told), True)

    def test_numbers_of_some_hundred_figures_are_numbers(self):
        low, high = (1, 10 ** 399 - 1), (10 ** 399 - 2, 10 ** 399 - 1)
        house = (low, 1, (((((0, low), (1, high)), (HUGE,)),), ((((1, ONE),), ((-HUGE[0], HUGE[1]),)),)))
        self.assertIs(importlib.import_module("deedhouses.houses").is_house(house), True)
        self.assertIs(importlib.import_module("deedhouses.houses").is_start(house, (high, low)), True)
        self.assertIs(importlib.import_module("deedhouses.houses").is_start(house, (high, high)), False)


# What a bent value, being right itself, lets later arguments be wrong by.
LATER = {
    **{each: {kind for kind, _ in [*WRONG.values(), *OTHERS.values()]} | {"TooMany", "NotTwo", "NotBest"}
       for each in ("house", "vague", "sketch", "dim", "named")},
    "start": {"InvalidShares"}, "stretches": {"InvalidWorths"}, "rows": {"InvalidRow"},
    "mark": {"InvalidHold", "InvalidNumber", "InvalidTree"},
    "many": {"InvalidTree", "InvalidLookout", "InvalidMix"}, "weights": {"NotBest"}, "choice": {"NotBest", "InvalidNumber"},
    ("runs", "many"): {"TooMany"}, ("misses", "many"): {"TooMany"}, ("certifyruns", "many"): {"TooMany"},
    ("wordings", "bounds"): {"InvalidNumber"},
    ("wordings", "start"): {"InvalidNumber"}, ("wordings", "still"): {"InvalidNumber"},
    "stand": {"InvalidNumber"}, "text": {"TwiceNamed", "UnknownName", "NoSum", "InvalidNumber"},
}


def is_told_form(value):
    """Whether a value is made of what this package tells alone: no list, no fraction that is not in lowest terms."""
    if isinstance(value, tuple):
        return all(is_told_form(each) for each in value)
    return value is None or type(value) in (int, bool, str)


if __name__ == "__main__":
    unittest.main()
