"""Point [50] and checker.py: each word's claims and papers, beside a second judge."""

import copy
import random
import unittest
from fractions import Fraction

from deedhouses.checker import accepts
from deedhouses.certifysights import certify_rows_left
from deedhouses.consoles import Console
from deedhouses.desks import Desk
from deedhouses.goals import greatest_coming
from deedhouses.plans import still_of
from deedhouses.runs import ways
from deedhouses.stretches import vague_of
from deedhouses.timed import timed_worths
from tests.claims import all_claims
from tests.helpers import (
    COIN, HALF, NIL, ONE, QUARTER, SHOP, THREE, TOSSED, TURNS, TWO, bent, draw_dim, draw_row, number, pair, plain, strange_values,
    weighted_worths,
)
from tests.judge import WORDS, judged
from tests.test_texts import MARKET, TOLD

# Of two claims with the same elements that exclude one another.
AGAINST = {
    "kept": "not kept", "in": "out", "comes": "comes not", "always comes": "comes less", "safe": "unsafe",
    "surely keeps": "keeps not surely", "surely better": "once worse", "stays": "stays not", "row above": "row mixed",
    "sight kept": "sight not kept",
}
AGAINST.update({two: one for one, two in list(AGAINST.items())})


def nudged(value, by):
    """The value with one of its fractions, at any depth, a little beside."""
    if not isinstance(value, tuple):
        return
    if len(value) == 2 and all(type(each) is int for each in value) and value[1] > 0:
        yield pair(number(value) + by)
    for at, part in enumerate(value):
        for other in nudged(part, by):
            yield value[:at] + (other,) + value[at + 1:]


def with_flags(value):
    """The value with one of its numbers 0 and 1, at any depth, told as False or True."""
    if isinstance(value, tuple):
        for at, part in enumerate(value):
            for other in with_flags(part):
                yield value[:at] + (other,) + value[at + 1:]
    elif type(value) is int and value in (0, 1):
        yield bool(value)


def some(source, values, many):
    told = list(values)
    return source.sample(told, min(many, len(told)))


class BesideTest(unittest.TestCase):
    """All that is told here is what the second judge tells."""

    def asked(self, claim, paper):
        told = accepts(claim, paper)
        self.assertIs(type(told), bool)
        self.assertIs(told, judged(claim, paper), (claim, paper))
        return told

    def test_claims_that_are_so_with_their_papers(self):
        seen = {}
        for seed in range(16):
            for claim, paper in all_claims(seed):
                self.assertIs(self.asked(claim, paper), True)
                seen[claim[0]] = seen.get(claim[0], 0) + 1
                self.assertEqual(accepts(claim=claim, paper=paper), True)
        self.assertEqual(set(seen), set(WORDS))
        self.assertGreater(min(seen.values()), 4, seen)

    def test_no_paper_and_papers_of_other_claims(self):
        for seed in range(4):
            told = all_claims(seed)
            papers = [paper for _, paper in told]
            source = random.Random(seed)
            for claim, paper in told:
                for other in [(), None, True, (paper,), *some(source, papers, 12)]:
                    self.asked(claim, other)

    def test_the_claim_against_it_has_none_of_these_papers(self):
        for seed in range(6):
            told = all_claims(seed)
            papers = [paper for _, paper in told]
            source = random.Random(seed)
            for claim, paper in told:
                if claim[0] in AGAINST:
                    other = (AGAINST[claim[0]], *claim[1:])
                    for each in [paper, (), *some(source, papers, 25)]:
                        self.assertIs(self.asked(other, each), False)

    def test_claims_and_papers_bent_at_any_place(self):
        seen = {}
        for word, told in self.lots().items():
            # All bends of the smallest claims, and of some that are not small.
            for claim, paper in told[:2] + told[len(told) // 3:][:1]:
                for other in bent(claim):
                    seen[word, self.asked(other, paper)] = True
                for other in bent(paper):
                    seen[word, self.asked(claim, other)] = True
            source = random.Random(len(word))
            for claim, paper in told[-2:]:
                for other in some(source, bent(claim), 50):
                    self.asked(other, paper)
                for other in some(source, bent(paper), 50):
                    self.asked(claim, other)
        for word in WORDS:
            self.assertIn((word, False), seen)

    def lots(self):
        """For each word the claims of some seeds with their papers, the smallest ones first."""
        told = {}
        for seed in range(24):
            for claim, paper in all_claims(seed):
                told.setdefault(claim[0], []).append((claim, paper))
        return {word: sorted(lot, key=lambda each: len(repr(each))) for word, lot in told.items()}

    def test_true_and_false_are_no_numbers(self):
        for word, told in self.lots().items():
            for claim, paper in told[:4] + told[len(told) // 2:][:3]:
                for other in with_flags(claim[1:]):
                    self.assertIs(accepts((word, *other), paper), False, (word, other))
                for other in with_flags(paper):
                    self.assertIs(accepts(claim, other), False, (word, other))

    def test_numbers_just_beside(self):
        for by in (Fraction(1, 10 ** 9), -Fraction(1, 10 ** 9)):
            for seed in range(3):
                source = random.Random(seed)
                for claim, paper in all_claims(seed):
                    for other in some(source, nudged(claim, by), 5):
                        self.asked(other, paper)
                    for other in some(source, nudged(paper, by), 8):
                        self.asked(claim, other)
                    # The last number of the claim alone.
                    for other in some(source, nudged((claim[-1],), by), 3):
                        self.asked(claim[:-1] + other, paper)

    def test_elements_left_out_doubled_and_of_another_kind(self):
        for seed in range(2):
            source = random.Random(seed)
            for claim, paper in all_claims(seed):
                for at in range(len(claim)):
                    self.assertIs(accepts(claim[:at] + claim[at + 1:], paper), False)
                    self.assertIs(accepts(claim[:at] + (claim[at],) + claim[at:], paper), False)
                    for other in some(source, strange_values(), 4):
                        self.asked(claim[:at] + (other,) + claim[at + 1:], paper)
                self.assertIs(accepts(list(claim), paper), False)
                self.assertIs(accepts((), paper), False)
                for word in ("", "Pays", "pays ", b"pays", None, 0, "bests", ("pays",)):
                    self.assertIs(accepts((word, *claim[1:]), paper), False)
                for word in source.sample(sorted(WORDS), 6):
                    self.asked((word, *claim[1:]), paper)

    def test_whatever_values(self):
        source = random.Random(8)
        values = [*strange_values(), SHOP, COIN, TOSSED, (ONE, NIL), (SHOP, (0, 0)), MARKET, TOLD, Desk(MARKET), Console(Desk(MARKET)), Fraction(1, 2)]
        for value in values:
            for other in values:
                self.assertIs(accepts(value, other), False)
        for word, (_, many) in WORDS.items():
            for length in range(many + 3):
                for _ in range(12):
                    claim = (word, *[source.choice(values) for _ in range(length)])
                    self.asked(claim, source.choice(values))
            # A first element that is right, and others that are not.
            for _ in range(40):
                first = source.choice((SHOP, (SHOP, (0, 1)), COIN))
                self.asked((word, first, *[source.choice(values) for _ in range(many - 1)]), source.choice(values))

    def test_deeply_nested_values(self):
        deep = 1
        for _ in range(19):
            deep = (deep,)
        for word in WORDS:
            self.assertIs(accepts((word, deep), deep), False)
            self.assertIs(accepts((word, *[deep] * WORDS[word][1]), deep), False)

    def test_equal_calls_and_no_changes(self):
        told = all_claims(3)
        before = copy.deepcopy(told)
        one = [accepts(*each) for each in told]
        two = [accepts(*each) for each in reversed(told)]
        self.assertEqual(one, list(reversed(two)))
        self.assertEqual(told, before)


class WordTest(unittest.TestCase):
    """By hand, word by word."""

    def told(self, is_so, claim, paper):
        self.assertIs(accepts(claim, paper), is_so, (claim, paper))

    def test_pays(self):
        for pays, is_so in (((TWO, TWO), True), ((TWO, (4, 2)), False), ((TWO, THREE), False), ([TWO, TWO], False), ((TWO,), False)):
            self.told(is_so, ("pays", COIN, (ONE,), ((HALF, HALF),), pays), ())
        self.told(False, ("pays", COIN, (ONE,), ((HALF, HALF),), (TWO, TWO)), None)
        self.told(False, ("pays", COIN, (ONE,), ((HALF, HALF),), (TWO, TWO)), [])
        self.told(False, ("pays", COIN, (HALF,), ((HALF, HALF),), (TWO, TWO)), ())
        self.told(False, ("pays", COIN, (ONE,), ((HALF, HALF),), (TWO, (True, 1))), ())
        house = (HALF, 1, (((((0, ONE),), (HALF,)),),))
        self.told(True, ("pays", house, (ONE,), ((ONE,),), (ONE,)), ())
        self.told(False, ("pays", house, (ONE,), ((ONE,),), ((True, 1),)), ())
        self.told(False, ("pays", house, (ONE,), ((ONE,),), ((1, True),)), ())

    def test_minded(self):
        self.told(True, ("minded", COIN, (ONE,), TURNS, (((2, 3), (1, 3)),)), ())
        self.told(False, ("minded", COIN, (ONE,), TURNS, ((HALF, HALF),)), ())
        self.told(False, ("minded", COIN, (ONE,), TURNS, (((2, 3), (1, 3)),)), ((),))

    def test_best(self):
        worths = ((16, 5), (8, 5))
        for weights, told, choice, is_so in (
            ((ONE, NIL), worths, (0, 0), True), ((ONE, NIL), worths, (1, 0), False), ((ONE, NIL), (TWO, ONE), (1, 0), False),
            ((NIL, ONE), (TWO, ONE), (1, 0), True), ((NIL, NIL), (NIL, NIL), (0, 0), True), ((NIL, NIL), (NIL, NIL), (1, 0), True),
            ((ONE, NIL), worths, still_of(SHOP, (0, 0)), False), ((ONE, NIL), worths, (False, 0), False), ((ONE, NIL), worths, (), False),
            ((-1, 1), (TWO, ONE), (1, 0), False), (((-1, 1), NIL), ((-2, 1), (-1, 1)), (1, 0), True),
        ):
            self.told(is_so, ("best", SHOP, weights, told), choice)

    def test_kept_and_not_kept(self):
        self.told(True, ("kept", COIN, (ONE,), (TWO, TWO)), ((HALF, HALF),))
        self.told(True, ("kept", COIN, (ONE,), (None, TWO)), ((QUARTER, (3, 4)),))
        self.told(False, ("kept", COIN, (ONE,), (TWO, TWO)), ((QUARTER, (3, 4)),))
        self.told(False, ("kept", COIN, (ONE,), (THREE, TWO)), ((HALF, HALF),))
        self.told(True, ("not kept", COIN, (ONE,), (THREE, TWO)), ((ONE, ONE), ((4, 1),)))
        self.told(False, ("not kept", COIN, (ONE,), (THREE, ONE)), ((ONE, ONE), ((4, 1),)))
        self.told(False, ("not kept", COIN, (ONE,), (THREE, None)), ((ONE, ONE), ((4, 1),)))
        self.told(False, ("not kept", COIN, (ONE,), (THREE, TWO)), ((ONE, ONE), ((39, 10),)))
        self.told(True, ("not kept", COIN, (ONE,), (THREE, TWO)), ((ONE, ONE), ((49, 10),)))
        self.told(False, ("not kept", COIN, (ONE,), (THREE, TWO)), ((ONE, ONE), ((5, 1),)))

    def test_most(self):
        claim = ("most", COIN, (ONE,), (None, ONE), 0, THREE)
        paper = (((3, 4), QUARTER),), (ONE, ONE), ((4, 1),)
        self.told(True, claim, paper)
        self.told(False, claim[:-1] + ((299, 100),), paper)
        self.told(False, claim, (((HALF, HALF),), *paper[1:]))
        self.told(False, claim, (paper[0], (TWO, ONE), ((8, 1),)))
        self.told(False, claim, (paper[0], (ONE, NIL), ((4, 1),)))
        self.told(False, claim, (paper[0], (HALF, ONE), ((4, 1),)))
        self.told(False, ("most", COIN, (ONE,), (None, ONE), 1, THREE), paper)
        self.told(False, ("most", COIN, (ONE,), (None, ONE), False, THREE), paper)
        one = (HALF, 1, (((((0, ONE),), (ONE,)),),))
        for pay, is_so in ((0, True), (-1, False), (1, False), (False, False), (None, False)):
            self.told(is_so, ("most", one, (ONE,), (None,), pay, TWO), (((ONE,),), (ONE,), (TWO,)))
        # Three pays: each weight but PAY's own stands beside its own bound.
        three = (HALF, 3, (((((0, ONE),), (ONE, ONE, ONE)),),))
        for pay, bounds, weights, worth, is_so in (
            (0, (None, None, TWO), (ONE, NIL, NIL), TWO, True), (0, (None, None, TWO), (ONE, NIL, ONE), (4, 1), True),
            (0, (None, TWO, None), (ONE, NIL, ONE), (4, 1), False), (0, (None, TWO, None), (ONE, ONE, NIL), (4, 1), True),
            (2, (TWO, None, None), (ONE, NIL, ONE), (4, 1), True), (2, (TWO, None, None), (NIL, ONE, ONE), (4, 1), False),
            (1, (TWO, None, ONE), (NIL, ONE, ONE), (4, 1), False), (1, (TWO, None, TWO), (HALF, ONE, HALF), (4, 1), True),
            (1, (None, TWO, None), (NIL, TWO, NIL), (4, 1), True), (1, (None, TWO, None), (NIL, HALF, NIL), ONE, False),
        ):
            self.told(is_so, ("most", three, (ONE,), bounds, pay, TWO), (((ONE,),), weights, (worth,)))
        # Any doubled number: two deeds that do the same.
        house = (HALF, 1, (((((0, ONE),), (TWO,)), (((0, ONE),), (TWO,))),))
        self.told(True, ("most", house, (ONE,), (None,), 0, (4, 1)), (((HALF, HALF),), (ONE,), ((4, 1),)))

    def test_in_and_out(self):
        self.told(True, ("in", COIN, (ONE,), (ONE, THREE)), ((QUARTER, (3, 4)),))
        self.told(False, ("in", COIN, (ONE,), (ONE, TWO)), ((QUARTER, (3, 4)),))
        self.told(True, ("out", COIN, (ONE,), (ONE, TWO)), (((-1, 1), (-1, 1)), ((-4, 1),)))
        self.told(False, ("out", COIN, (ONE,), (ONE, THREE)), (((-1, 1), (-1, 1)), ((-4, 1),)))
        one = (HALF, 1, (((((0, ONE),), (ONE,)),),))
        self.told(False, ("in", one, (ONE,), (TWO,)), ((ONE,),))
        self.told(False, ("in", one, (ONE,), (TWO, TWO)), ((ONE,),))
        self.told(False, ("out", one, (ONE,), (THREE, THREE)), ((ONE, ONE), (TWO,)))
        self.told(False, ("out", one, (ONE,), (THREE,)), ((ONE,), (TWO,)))

    def test_goals(self):
        maze = (HALF, 1, (
            ((((1, HALF), (2, HALF)), (NIL,)), (((0, ONE),), (NIL,))), ((((1, ONE),), (NIL,)),), ((((2, ONE),), (NIL,)),),
        ))
        tries = (HALF, 1, (((((0, HALF), (1, HALF)), (NIL,)), (((1, ONE),), (NIL,))), ((((1, ONE),), (NIL,)),)))
        row = greatest_coming(maze, (1,))[0]
        self.told(True, ("comes", maze, (1,), 0, HALF), (0, 0, 0))
        self.told(False, ("comes", maze, (1,), 0, HALF), (1, 0, 0))
        self.told(False, ("comes", maze, (1,), 0, (51, 100)), (0, 0, 0))
        self.told(True, ("comes", maze, (1,), 2, NIL), (0, 0, 0))
        self.told(True, ("comes not", maze, (1,), 0, (51, 100)), row)
        self.told(False, ("comes not", maze, (1,), 0, HALF), row)
        self.told(True, ("comes not", maze, (1,), 2, ONE), (HALF, ONE, NIL))
        self.told(True, ("comes not", maze, (1,), 2, ONE), (TWO, TWO, HALF))
        self.told(False, ("comes not", maze, (1,), 2, ONE), (HALF, (9, 10), NIL))
        self.told(False, ("comes not", maze, (1,), 2, ONE), (QUARTER, ONE, NIL))
        self.told(False, ("comes not", maze, (1,), 2, ONE), (HALF, ONE, (-1, 9)))
        self.told(True, ("always comes", tries, (1,), 0, ONE), ((ONE, ONE), (1, 0)))
        self.told(True, ("always comes", tries, (1,), 0, ONE), ((ONE, ONE), (9, 7)))
        self.told(False, ("always comes", tries, (1,), 0, ONE), ((ONE, ONE), (0, 0)))
        self.told(False, ("always comes", tries, (1,), 0, ONE), ((ONE, ONE), (-1, 0)))
        self.told(False, ("always comes", tries, (1,), 0, ONE), ((ONE, ONE), (True, 0)))
        self.told(False, ("always comes", tries, (1,), 0, (101, 100)), (((101, 100), (101, 100)), (1, 0)))
        self.told(True, ("always comes", maze, (1,), 0, NIL), ((NIL, ONE, NIL), (0, 0, 0)))
        self.told(True, ("always comes", maze, (1,), 0, (-1, 1)), (((-1, 1), NIL, (-5, 1)), (0, 3, 0)))
        self.told(False, ("always comes", maze, (1,), 0, QUARTER), ((QUARTER, ONE, NIL), (1, 0, 0)))
        self.told(True, ("comes less", maze, (1,), 0, HALF), (1, 0, 0))
        self.told(False, ("comes less", maze, (1,), 0, HALF), (0, 0, 0))
        # Two steps from the goal: a rank above that of a stand that is no goal.
        chain = (HALF, 1, (((((1, ONE),), (NIL,)),), ((((0, HALF), (2, HALF)), (NIL,)),), ((((2, ONE),), (NIL,)),)))
        for ranks, is_so in (((2, 1, 0), True), ((1, 1, 0), False), ((1, 2, 0), False), ((5, 3, 9), True), ((0, 1, 0), False)):
            self.told(is_so, ("always comes", chain, (2,), 0, ONE), ((ONE, ONE, ONE), ranks))
        for stand in (-1, 3, True, None, "0"):
            self.told(False, ("comes", maze, (1,), stand, (-9, 1)), (0, 0, 0))
            self.told(False, ("comes less", maze, (1,), stand, (9, 1)), (0, 0, 0))
            self.told(False, ("comes not", maze, (1,), stand, (9, 1)), row)
            self.told(False, ("always comes", tries, (1,), stand, (-9, 1)), ((ONE, ONE), (1, 0)))
        for goals in ((), (3,), (1, 1), [1], (True,)):
            self.told(False, ("comes", maze, goals, 0, HALF), (0, 0, 0))
        self.told(False, ("comes", maze, (1,), 3, NIL), (0, 0, 0))

    def test_timed(self):
        for many in (0, 1, 2, 30):
            worths = timed_worths(SHOP, (ONE, ONE), many)[-1]
            self.told(True, ("timed", SHOP, (ONE, ONE), many, worths), ())
            self.told(False, ("timed", SHOP, (ONE, ONE), many, (worths[0], pair(number(worths[1]) + 1))), ())
        self.told(False, ("timed", SHOP, (ONE, ONE), 31, timed_worths(SHOP, (ONE, ONE), 30)[-1]), ())
        self.told(False, ("timed", SHOP, (ONE, ONE), True, (TWO, NIL)), ())
        self.told(True, ("timed", SHOP, (ONE, ONE), 1, (TWO, NIL)), ())

    def test_surely_better_in_order(self):
        wide = (((0, QUARTER, (3, 4)), (1, QUARTER, (3, 4))), (ONE,))
        vague = (HALF, 1, ((wide, (((1, ONE, ONE),), (NIL,))), ((((1, ONE, ONE),), (TWO,)),)))
        worths = tuple((pair((1 + 2 * (1 - at)) / (1 - at / 2)), (4, 1)) for at in (Fraction(1, 4), Fraction(3, 4)))
        # From the other deed, of worth 2, to the wide one: a row of one corner alone.
        self.told(True, ("surely better", vague, (ONE,), (1, 0), 0, 0), ((TWO, (4, 1)),))
        self.told(False, ("surely better", vague, (ONE,), (1, 0), 0, 0), worths)
        self.told(False, ("surely better", vague, (ONE,), (0, 0), 0, 1), worths)
        better = (HALF, 1, ((wide, (((1, ONE, ONE),), (ONE,))), vague[2][1]))
        self.told(True, ("surely better", better, (ONE,), (0, 0), 0, 1), worths)
        self.told(False, ("surely better", better, (ONE,), (0, 0), 0, 1), worths[::-1])
        self.told(False, ("surely better", better, (ONE,), (0, 0), 0, 0), worths)

    def test_numbers_of_steps(self):
        alone = (HALF, 1, (((((0, ONE),), (ONE,)),),))
        dim = (alone, (0,))
        tree = ()
        for many in range(-1, 7):
            brought = pair(2 - Fraction(2) / 2 ** many) if many >= 0 else NIL
            self.told(0 <= many <= 4, ("sight best", dim, (ONE,), (ONE,), many, brought), ())
            self.told(0 <= many <= 4, ("sight kept", dim, (ONE,), (NIL,), many), ((ONE, (tree,)),))
            self.told(0 <= many <= 4, ("sight not kept", dim, (ONE,), (THREE,), many), (ONE,))
            stages = tuple(((((pair(2 - Fraction(2) / 2 ** (at + 1)),),), ((ONE,),), ((ONE,),)),) for at in range(many))
            self.told(0 <= many <= 4, ("rows left", dim, (ONE,), many, (((brought,),),)), stages)
            if many >= 0:
                tree = (0, (tree,))
        for many in (-1, 0, 1, 30, 31, 60):
            brought = pair(2 - Fraction(2) / 2 ** many) if many >= 0 else NIL
            self.told(0 <= many <= 30, ("timed", alone, (ONE,), many, (brought,)), ())
        for many in (-1, 0, 1, 60, 61):
            self.told(0 <= many <= 60, ("missed", alone, (ONE,), ("still", ((ONE,),)), many, HALF, NIL), ())

    def test_stands_that_are_none(self):
        vague = vague_of(SHOP)
        for stand, is_so in ((0, True), (1, True), (-1, False), (2, False), (True, False), (None, False), ((0,), False)):
            told = ("once below", vague, (ONE, NIL), plain(SHOP, (0, 0)), stand, (9, 1))
            self.told(is_so, told, (SHOP, ((16, 5), (8, 5))))

    def test_a_deed_that_is_done_already_is_no_change(self):
        vague = vague_of(SHOP)
        for choice in ((0, 0), (1, 0)):
            worths = tuple(pair(each) for each in weighted_worths(SHOP, (ONE, NIL), plain(SHOP, choice)))
            for deed in (0, 1):
                told = ("surely better", vague, (ONE, NIL), choice, 0, deed)
                self.told(deed != choice[0] and choice == (1, 0), told, (worths,))
                self.told(False, told, (worths, worths))
                self.told(False, told, worths)
                told = ("once worse", vague, (ONE, NIL), choice, 0, deed)
                self.told(deed != choice[0] and choice == (0, 0), told, (SHOP, worths))

    def test_a_pay_that_is_none(self):
        vague = vague_of(SHOP)
        nothing = (NIL, NIL)
        low = tuple(pair(each) for each in weighted_worths(SHOP, (NIL, ONE), plain(SHOP, (0, 0))))
        for pay, worths, is_so in ((1, low, True), (-1, nothing, False), (-1, low, False), (2, nothing, False), (0, low, False), (True, low, False)):
            told = ("keeps not surely", vague, (ONE, NIL), (None, ONE), plain(SHOP, (0, 0)))
            self.told(is_so, told, (pay, SHOP, worths))

    def test_rows_left(self):
        for seed in range(12):
            dim = draw_dim(seed, 4, 2, 2, 1)
            claim, paper = certify_rows_left(dim, (ONE,), 2)
            self.told(True, claim, paper)
            for at, stage in enumerate(paper):
                for mark, (rows, chances, odds) in enumerate(stage):
                    # Chances from which another row is above are none for this one.
                    for one in range(len(rows)):
                        for two in range(len(rows)):
                            other = chances[:one] + (chances[two],) + chances[one + 1:]
                            part = stage[:mark] + ((rows, other, odds),) + stage[mark + 1:]
                            self.told(one == two, claim, paper[:at] + (part,) + paper[at + 1:])
        dim = draw_dim(5, 4, 2, 2, 1)
        claim, paper = certify_rows_left(dim, (ONE,), 2)
        self.told(False, claim, paper[:1])
        self.told(False, claim, paper + paper[1:])
        self.told(False, (*claim[:3], 1, claim[4]), paper)
        self.told(False, (*claim[:4], claim[4][::-1]), paper)
        # All told the other way round: the rows are not ascending then.
        for seed in range(12):
            other = draw_dim(seed, 4, 2, 2, 1)
            told, shown = certify_rows_left(other, (ONE,), 1)
            turned = tuple((rows[::-1], chances[::-1], tuple(each[::-1] for each in odds)) for rows, chances, odds in shown[0])
            is_same = all(len(rows) == 1 for rows, _, _ in turned)
            self.told(is_same, (*told[:4], tuple(rows for rows, _, _ in turned)), (turned,))
            self.told(is_same, told, (turned,))
        zero, none = certify_rows_left(dim, (ONE,), 0)
        self.told(True, zero, none)
        self.assertEqual(none, ())
        self.told(False, (*zero[:4], ((), ())), ())

    def test_texts(self):
        self.told(True, ("reads", TOLD, MARKET), ())
        self.told(True, ("reads", TOLD.replace("1/2", "2/4"), MARKET), ())
        self.told(False, ("reads", TOLD + "\n", MARKET), ())
        self.told(False, ("reads", TOLD.replace("1/2 home", "1/3 home"), MARKET), ())
        self.told(False, ("reads", TOLD.replace("1/2 home", "1/2 hom"), MARKET), ())
        self.told(False, ("reads", TOLD.replace("share 1/2", "share 3/2"), MARKET), ())
        self.told(False, ("reads", TOLD.encode(), MARKET), ())
        self.told(False, ("reads", TOLD, MARKET[0]), ())

    def test_runs(self):
        start, player = (ONE, NIL), ("still", TOSSED)
        way = ((0, 0, 1), (1, 0, 0))
        self.told(True, ("run", SHOP, start, player, (NIL, QUARTER, (3, 4), HALF, NIL), way), ())
        self.told(False, ("run", SHOP, start, player, (NIL, HALF, (3, 4), HALF, NIL), way), ())
        self.told(False, ("run", SHOP, start, player, (NIL, QUARTER, (3, 4), HALF), way), ())
        self.told(False, ("run", SHOP, start, player, (NIL, QUARTER, (3, 4), HALF, ONE), way), ())
        self.told(True, ("way", SHOP, start, player, way, QUARTER), ())
        self.told(False, ("way", SHOP, start, player, way, (2, 8)), ())
        self.told(True, ("way", SHOP, start, player, ((1, 0, 0),), NIL), ())
        self.told(True, ("way", SHOP, start, player, (), ONE), ())

    def test_ways(self):
        start, player = (ONE, NIL), ("still", TOSSED)
        pairs = ((((0, 0, 0),), QUARTER), (((0, 0, 1),), QUARTER), (((0, 1, 0),), HALF))
        claim = ("ways", SHOP, start, player, 1, ((3, 2), HALF))
        self.told(True, claim, pairs)
        self.told(False, claim, pairs[::-1])
        self.told(False, claim, pairs[:2])
        self.told(False, claim, pairs + pairs[2:])
        self.told(False, claim, ((((0, 0, 0),), HALF), *pairs[2:]))
        self.told(False, claim, pairs + ((((1, 0, 0),), NIL),))
        self.told(False, (*claim[:5], ((3, 2), ONE)), pairs)
        self.told(False, (*claim[:4], 2, claim[5]), pairs)
        self.told(True, (*claim[:4], 0, (NIL, NIL)), (((), ONE),))
        for many, is_so in ((1, True), (True, False), (0, False), (2, False), (None, False), ((1, 1), False)):
            self.told(is_so, ("ways", SHOP, start, player, many, ((3, 2), HALF)), pairs)
        alone = (HALF, 1, (((((0, ONE),), (ONE,)),),))
        for many, is_so in ((20, True), (21, False), (60, False)):
            way = ((0, 0, 0),) * many
            told = ("ways", alone, (ONE,), ("still", ((ONE,),)), many, (pair(2 - Fraction(2, 2 ** many)),))
            self.told(is_so, told, ((way, ONE),))
        # More ways than are told by the package are a paper, too.
        house = (HALF, 1, (((((0, ONE),), (ONE,)), (((0, ONE),), (NIL,))),))
        many = []
        for code in range(512):
            many.append((tuple((0, code >> 8 - at & 1, 0) for at in range(9)), (1, 512)))
        told = ("ways", house, (ONE,), ("still", ((HALF, HALF),)), 9, (pair(1 - Fraction(1, 512)),))
        self.told(True, told, tuple(many))
        self.told(False, told, tuple(many[:-1]))

    def test_missed(self):
        start, player = (ONE, NIL), ("still", TOSSED)
        claim = ("missed", SHOP, start, player, 2, (3, 4))
        self.told(True, claim + ((7, 9),), ())
        self.told(False, claim + ((1, 16),), ())
        # All ways: missed are those on which one works twice and both times stays.
        pairs = ways(SHOP, start, player, 2)
        self.told(True, claim + ((1, 16),), pairs)
        self.told(True, claim + ((1, 15),), pairs)
        self.told(False, claim + ((1, 17),), pairs)
        self.told(False, claim + ((1, 16),), pairs[1:])
        self.told(False, claim + ((1, 17),), ())
        alone = (HALF, 1, (((((0, ONE),), (ONE,)),),))
        for many in (1, 20, 21, 60):
            told = ("missed", alone, (ONE,), ("still", ((ONE,),)), many, HALF, NIL)
            self.told(many <= 20, told, ((((0, 0, 0),) * many, ONE),))
            self.told(True, told, ())
        self.told(False, ("missed", alone, (ONE,), ("still", ((ONE,),)), True, HALF, NIL), ((((0, 0, 0),), ONE),))
        for allowance in (NIL, (-1, 2), (2, 4), None, 1):
            self.told(False, ("missed", alone, (ONE,), ("still", ((ONE,),)), 1, allowance, ONE), ((((0, 0, 0),), ONE),))
        self.told(False, ("missed", SHOP, start, player, 61, (3, 4), (100, 1)), ())
        self.told(True, ("missed", SHOP, start, player, 60, (3, 4), (100, 1)), ())
        self.told(False, ("missed", SHOP, start, player, 2, NIL, (100, 1)), ())
        self.told(True, ("missed", SHOP, start, player, 0, (3, 4), NIL), (((), ONE),))
        self.told(True, ("missed", SHOP, start, player, 0, (3, 4), NIL), ())
        self.told(False, ("missed", SHOP, start, player, 0, (3, 4), (-1, 9)), ())

    def test_same_and_brings(self):
        later = ("told", ((((0,), (NIL, ONE)), ((0, 1, 0), (ONE, NIL))), still_of(SHOP, (0, 0))))
        self.told(True, ("brings", SHOP, (ONE, NIL), later, ((13, 5), ONE)), ())
        self.told(False, ("brings", SHOP, (ONE, NIL), later, ((13, 5), TWO)), ())
        self.told(True, ("same", SHOP, (ONE, NIL), later, (((4, 9), (5, 9)), (ONE,))), ())
        self.told(False, ("same", SHOP, (ONE, NIL), later, plain(SHOP, (1, 0))), ())
        self.told(True, ("same", SHOP, (ONE, NIL), ("still", plain(SHOP, (1, 0))), plain(SHOP, (1, 0))), ())

    def test_rows_above_and_mixed(self):
        rows = ((NIL, (3, 2)), ((3, 2), NIL))
        self.told(True, ("row mixed", rows, (HALF, HALF)), (HALF, HALF))
        self.told(False, ("row mixed", rows, (ONE, ONE)), (HALF, HALF))
        self.told(True, ("row above", rows, (ONE, ONE)), (HALF, HALF))
        self.told(False, ("row above", rows, (ONE, ONE)), (NIL, ONE))
        self.told(False, ("row above", rows, (ONE, ONE)), (ONE, ONE))
        self.told(False, ("row above", rows, ((3, 4), (3, 4))), (HALF, HALF))
        self.told(True, ("row mixed", rows, ((3, 4), (3, 4))), (HALF, HALF))
        source = random.Random(3)
        many = tuple(draw_row(source, 2) for _ in range(61))
        self.told(True, ("row above", many[:60], ((99, 1), (99, 1))), (HALF, HALF))
        self.told(False, ("row above", many, ((99, 1), (99, 1))), (HALF, HALF))
        self.told(False, ("row above", (), (ONE,)), (ONE,))


if __name__ == "__main__":
    unittest.main()
