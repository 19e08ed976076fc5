"""Point [50] and checker.py: each word's claims and papers, beside a second judge."""

import copy
import random
import unittest
from fractions import Fraction

from deedhouses.checker import accepts
from deedhouses.certifysights import certify_rows_left
from deedhouses.consoles import Console
from deedhouses.desks import Desk
from deedhouses.goals import greatest_coming
from deedhouses.plans import still_of
from deedhouses.runs import ways
from deedhouses.timed import timed_worths
from tests.claims import all_claims, house_claims, run_claims, sight_claims, vague_claims
from tests.helpers import (
    COIN, HALF, NIL, ONE, QUARTER, SHOP, THREE, TOSSED, TURNS, TWO, bent, draw_dim, draw_row, number, pair, plain, strange_values,
)
from tests.judge import WORDS, judged
from tests.test_texts import MARKET, TOLD

# Of two claims with the same elements that exclude one another.
AGAINST = {
    "kept": "not kept", "in": "out", "comes": "comes not", "always comes": "comes less", "safe": "unsafe",
    "surely keeps": "keeps not surely", "surely better": "once worse", "stays": "stays not", "row above": "row mixed",
    "sight kept": "sight not kept",
}
AGAINST.update({two: one for one, two in list(AGAINST.items())})


def nudged(value, by):
    """The value with one of its fractions, at any depth, a little beside."""
    if not isinstance(value, tuple):
        return
    if len(value) == 2 and all(type(each) is int for each in value) and value[1] > 0:
        yield pair(number(value) + by)
    for at, part in enumerate(value):
        for other in nudged(part, by):
            yield value[:at] + (other,) + value[at + 1:]


def some(source, values, many):
    told = list(values)
    return source.sample(told, min(many, len(told)))


class BesideTest(unittest.TestCase):
    """All that is told here is what the second judge tells."""

    def asked(self, claim, paper):
        told = accepts(claim, paper)
        self.assertIs(type(told), bool)
        self.assertIs(told, judged(claim, paper), (claim, paper))
        return told

    def test_claims_that_are_so_with_their_papers(self):
        seen = {}
        for seed in range(24):
            for claim, paper in all_claims(seed):
                self.assertIs(self.asked(claim, paper), True)
                seen[claim[0]] = seen.get(claim[0], 0) + 1
                self.assertEqual(accepts(claim=claim, paper=paper), True)
        self.assertEqual(set(seen), set(WORDS))
        self.assertGreater(min(seen.values()), 8, seen)

    def test_no_paper_and_papers_of_other_claims(self):
        for seed in range(4):
            told = all_claims(seed)
            papers = [paper for _, paper in told]
            source = random.Random(seed)
            for claim, paper in told:
                for other in [(), None, True, (paper,), *some(source, papers, 12)]:
                    self.asked(claim, other)

    def test_the_claim_against_it_has_none_of_these_papers(self):
        for seed in range(6):
            told = all_claims(seed)
            papers = [paper for _, paper in told]
            source = random.Random(seed)
            for claim, paper in told:
                if claim[0] in AGAINST:
                    other = (AGAINST[claim[0]], *claim[1:])
                    for each in [paper, (), *some(source, papers, 25)]:
                        self.assertIs(self.asked(other, each), False)

    def test_claims_bent_at_any_place(self):
        right = 0
        for kind in (house_claims, vague_claims, sight_claims, run_claims):
            for seed in range(3):
                source = random.Random(seed)
                for claim, paper in kind(seed):
                    for other in some(source, bent(claim), 12):
                        right += self.asked(other, paper)
        self.assertLess(right, 900)

    def test_papers_bent_at_any_place(self):
        right = 0
        for kind in (house_claims, vague_claims, sight_claims, run_claims):
            for seed in range(3):
                source = random.Random(seed)
                for claim, paper in kind(seed):
                    for other in some(source, bent(paper), 15):
                        right += self.asked(claim, other)
        self.assertLess(right, 900)

    def test_numbers_just_beside(self):
        for by in (Fraction(1, 10 ** 9), -Fraction(1, 10 ** 9)):
            for seed in range(3):
                source = random.Random(seed)
                for claim, paper in all_claims(seed):
                    for other in some(source, nudged(claim, by), 5):
                        self.asked(other, paper)
                    for other in some(source, nudged(paper, by), 8):
                        self.asked(claim, other)
                    # The last number of the claim alone.
                    for other in some(source, nudged((claim[-1],), by), 3):
                        self.asked(claim[:-1] + other, paper)

    def test_elements_left_out_doubled_and_of_another_kind(self):
        for seed in range(2):
            source = random.Random(seed)
            for claim, paper in all_claims(seed):
                for at in range(len(claim)):
                    self.assertIs(accepts(claim[:at] + claim[at + 1:], paper), False)
                    self.assertIs(accepts(claim[:at] + (claim[at],) + claim[at:], paper), False)
                    for other in some(source, strange_values(), 4):
                        self.asked(claim[:at] + (other,) + claim[at + 1:], paper)
                self.assertIs(accepts(list(claim), paper), False)
                self.assertIs(accepts((), paper), False)
                for word in ("", "Pays", "pays ", b"pays", None, 0, "bests", ("pays",)):
                    self.assertIs(accepts((word, *claim[1:]), paper), False)
                for word in source.sample(sorted(WORDS), 6):
                    self.asked((word, *claim[1:]), paper)

    def test_whatever_values(self):
        source = random.Random(8)
        values = [*strange_values(), SHOP, COIN, TOSSED, (ONE, NIL), (SHOP, (0, 0)), MARKET, TOLD, Desk(MARKET), Console(Desk(MARKET)), Fraction(1, 2)]
        for value in values:
            for other in values:
                self.assertIs(accepts(value, other), False)
        for word, (_, many) in WORDS.items():
            for length in range(many + 3):
                for _ in range(12):
                    claim = (word, *[source.choice(values) for _ in range(length)])
                    self.asked(claim, source.choice(values))
            # A first element that is right, and others that are not.
            for _ in range(40):
                first = source.choice((SHOP, (SHOP, (0, 1)), COIN))
                self.asked((word, first, *[source.choice(values) for _ in range(many - 1)]), source.choice(values))

    def test_deeply_nested_values(self):
        deep = 1
        for _ in range(19):
            deep = (deep,)
        for word in WORDS:
            self.assertIs(accepts((word, deep), deep), False)
            self.assertIs(accepts((word, *[deep] * WORDS[word][1]), deep), False)

    def test_equal_calls_and_no_changes(self):
        told = all_claims(3)
        before = copy.deepcopy(told)
        one = [accepts(*each) for each in told]
        two = [accepts(*each) for each in reversed(told)]
        self.assertEqual(one, list(reversed(two)))
        self.assertEqual(told, before)


class WordTest(unittest.TestCase):
    """By hand, word by word."""

    def told(self, is_so, claim, paper):
        self.assertIs(accepts(claim, paper), is_so, (claim, paper))

    def test_pays(self):
        for pays, is_so in (((TWO, TWO), True), ((TWO, (4, 2)), False), ((TWO, THREE), False), ([TWO, TWO], False), ((TWO,), False)):
            self.told(is_so, ("pays", COIN, (ONE,), ((HALF, HALF),), pays), ())
        self.told(False, ("pays", COIN, (ONE,), ((HALF, HALF),), (TWO, TWO)), None)
        self.told(False, ("pays", COIN, (ONE,), ((HALF, HALF),), (TWO, TWO)), [])
        self.told(False, ("pays", COIN, (HALF,), ((HALF, HALF),), (TWO, TWO)), ())
        self.told(False, ("pays", COIN, (ONE,), ((HALF, HALF),), (TWO, (True, 1))), ())
        house = (HALF, 1, (((((0, ONE),), (HALF,)),),))
        self.told(True, ("pays", house, (ONE,), ((ONE,),), (ONE,)), ())
        self.told(False, ("pays", house, (ONE,), ((ONE,),), ((True, 1),)), ())
        self.told(False, ("pays", house, (ONE,), ((ONE,),), ((1, True),)), ())

    def test_minded(self):
        self.told(True, ("minded", COIN, (ONE,), TURNS, (((2, 3), (1, 3)),)), ())
        self.told(False, ("minded", COIN, (ONE,), TURNS, ((HALF, HALF),)), ())
        self.told(False, ("minded", COIN, (ONE,), TURNS, (((2, 3), (1, 3)),)), ((),))

    def test_best(self):
        worths = ((16, 5), (8, 5))
        for weights, told, choice, is_so in (
            ((ONE, NIL), worths, (0, 0), True), ((ONE, NIL), worths, (1, 0), False), ((ONE, NIL), (TWO, ONE), (1, 0), False),
            ((NIL, ONE), (TWO, ONE), (1, 0), True), ((NIL, NIL), (NIL, NIL), (0, 0), True), ((NIL, NIL), (NIL, NIL), (1, 0), True),
            ((ONE, NIL), worths, still_of(SHOP, (0, 0)), False), ((ONE, NIL), worths, (False, 0), False), ((ONE, NIL), worths, (), False),
            ((-1, 1), (TWO, ONE), (1, 0), False), (((-1, 1), NIL), ((-2, 1), (-1, 1)), (1, 0), True),
        ):
            self.told(is_so, ("best", SHOP, weights, told), choice)

    def test_kept_and_not_kept(self):
        self.told(True, ("kept", COIN, (ONE,), (TWO, TWO)), ((HALF, HALF),))
        self.told(True, ("kept", COIN, (ONE,), (None, TWO)), ((QUARTER, (3, 4)),))
        self.told(False, ("kept", COIN, (ONE,), (TWO, TWO)), ((QUARTER, (3, 4)),))
        self.told(False, ("kept", COIN, (ONE,), (THREE, TWO)), ((HALF, HALF),))
        self.told(True, ("not kept", COIN, (ONE,), (THREE, TWO)), ((ONE, ONE), ((4, 1),)))
        self.told(False, ("not kept", COIN, (ONE,), (THREE, ONE)), ((ONE, ONE), ((4, 1),)))
        self.told(False, ("not kept", COIN, (ONE,), (THREE, None)), ((ONE, ONE), ((4, 1),)))
        self.told(False, ("not kept", COIN, (ONE,), (THREE, TWO)), ((ONE, ONE), ((39, 10),)))
        self.told(True, ("not kept", COIN, (ONE,), (THREE, TWO)), ((ONE, ONE), ((49, 10),)))
        self.told(False, ("not kept", COIN, (ONE,), (THREE, TWO)), ((ONE, ONE), ((5, 1),)))

    def test_most(self):
        claim = ("most", COIN, (ONE,), (None, ONE), 0, THREE)
        paper = (((3, 4), QUARTER),), (ONE, ONE), ((4, 1),)
        self.told(True, claim, paper)
        self.told(False, claim[:-1] + ((299, 100),), paper)
        self.told(False, claim, (((HALF, HALF),), *paper[1:]))
        self.told(False, claim, (paper[0], (TWO, ONE), ((8, 1),)))
        self.told(False, claim, (paper[0], (ONE, NIL), ((4, 1),)))
        self.told(False, claim, (paper[0], (HALF, ONE), ((4, 1),)))
        self.told(False, ("most", COIN, (ONE,), (None, ONE), 1, THREE), paper)
        self.told(False, ("most", COIN, (ONE,), (None, ONE), False, THREE), paper)
        # Any doubled number: two deeds that do the same.
        house = (HALF, 1, (((((0, ONE),), (TWO,)), (((0, ONE),), (TWO,))),))
        self.told(True, ("most", house, (ONE,), (None,), 0, (4, 1)), (((HALF, HALF),), (ONE,), ((4, 1),)))

    def test_in_and_out(self):
        self.told(True, ("in", COIN, (ONE,), (ONE, THREE)), ((QUARTER, (3, 4)),))
        self.told(False, ("in", COIN, (ONE,), (ONE, TWO)), ((QUARTER, (3, 4)),))
        self.told(True, ("out", COIN, (ONE,), (ONE, TWO)), (((-1, 1), (-1, 1)), ((-4, 1),)))
        self.told(False, ("out", COIN, (ONE,), (ONE, THREE)), (((-1, 1), (-1, 1)), ((-4, 1),)))
        one = (HALF, 1, (((((0, ONE),), (ONE,)),),))
        self.told(False, ("in", one, (ONE,), (TWO,)), ((ONE,),))
        self.told(False, ("in", one, (ONE,), (TWO, TWO)), ((ONE,),))

    def test_goals(self):
        maze = (HALF, 1, (
            ((((1, HALF), (2, HALF)), (NIL,)), (((0, ONE),), (NIL,))), ((((1, ONE),), (NIL,)),), ((((2, ONE),), (NIL,)),),
        ))
        tries = (HALF, 1, (((((0, HALF), (1, HALF)), (NIL,)), (((1, ONE),), (NIL,))), ((((1, ONE),), (NIL,)),)))
        row = greatest_coming(maze, (1,))[0]
        self.told(True, ("comes", maze, (1,), 0, HALF), (0, 0, 0))
        self.told(False, ("comes", maze, (1,), 0, HALF), (1, 0, 0))
        self.told(False, ("comes", maze, (1,), 0, (51, 100)), (0, 0, 0))
        self.told(True, ("comes", maze, (1,), 2, NIL), (0, 0, 0))
        self.told(True, ("comes not", maze, (1,), 0, (51, 100)), row)
        self.told(False, ("comes not", maze, (1,), 0, HALF), row)
        self.told(True, ("comes not", maze, (1,), 2, ONE), (HALF, ONE, NIL))
        self.told(True, ("comes not", maze, (1,), 2, ONE), (TWO, TWO, HALF))
        self.told(False, ("comes not", maze, (1,), 2, ONE), (HALF, (9, 10), NIL))
        self.told(False, ("comes not", maze, (1,), 2, ONE), (QUARTER, ONE, NIL))
        self.told(False, ("comes not", maze, (1,), 2, ONE), (HALF, ONE, (-1, 9)))
        self.told(True, ("always comes", tries, (1,), 0, ONE), ((ONE, ONE), (1, 0)))
        self.told(True, ("always comes", tries, (1,), 0, ONE), ((ONE, ONE), (9, 7)))
        self.told(False, ("always comes", tries, (1,), 0, ONE), ((ONE, ONE), (0, 0)))
        self.told(False, ("always comes", tries, (1,), 0, ONE), ((ONE, ONE), (-1, 0)))
        self.told(False, ("always comes", tries, (1,), 0, ONE), ((ONE, ONE), (True, 0)))
        self.told(False, ("always comes", tries, (1,), 0, (101, 100)), (((101, 100), (101, 100)), (1, 0)))
        self.told(True, ("always comes", maze, (1,), 0, NIL), ((NIL, ONE, NIL), (0, 0, 0)))
        self.told(True, ("always comes", maze, (1,), 0, (-1, 1)), (((-1, 1), NIL, (-5, 1)), (0, 3, 0)))
        self.told(False, ("always comes", maze, (1,), 0, QUARTER), ((QUARTER, ONE, NIL), (1, 0, 0)))
        self.told(True, ("comes less", maze, (1,), 0, HALF), (1, 0, 0))
        self.told(False, ("comes less", maze, (1,), 0, HALF), (0, 0, 0))
        for goals in ((), (3,), (1, 1), [1], (True,)):
            self.told(False, ("comes", maze, goals, 0, HALF), (0, 0, 0))
        self.told(False, ("comes", maze, (1,), 3, NIL), (0, 0, 0))

    def test_timed(self):
        for many in (0, 1, 2, 30):
            worths = timed_worths(SHOP, (ONE, ONE), many)[-1]
            self.told(True, ("timed", SHOP, (ONE, ONE), many, worths), ())
            self.told(False, ("timed", SHOP, (ONE, ONE), many, (worths[0], pair(number(worths[1]) + 1))), ())
        self.told(False, ("timed", SHOP, (ONE, ONE), 31, timed_worths(SHOP, (ONE, ONE), 30)[-1]), ())
        self.told(False, ("timed", SHOP, (ONE, ONE), True, (TWO, NIL)), ())
        self.told(True, ("timed", SHOP, (ONE, ONE), 1, (TWO, NIL)), ())

    def test_surely_better_in_order(self):
        wide = (((0, QUARTER, (3, 4)), (1, QUARTER, (3, 4))), (ONE,))
        vague = (HALF, 1, ((wide, (((1, ONE, ONE),), (NIL,))), ((((1, ONE, ONE),), (TWO,)),)))
        worths = tuple((pair((1 + 2 * (1 - at)) / (1 - at / 2)), (4, 1)) for at in (Fraction(1, 4), Fraction(3, 4)))
        # From the other deed, of worth 2, to the wide one: a row of one corner alone.
        self.told(True, ("surely better", vague, (ONE,), (1, 0), 0, 0), ((TWO, (4, 1)),))
        self.told(False, ("surely better", vague, (ONE,), (1, 0), 0, 0), worths)
        self.told(False, ("surely better", vague, (ONE,), (0, 0), 0, 1), worths)
        better = (HALF, 1, ((wide, (((1, ONE, ONE),), (ONE,))), vague[2][1]))
        self.told(True, ("surely better", better, (ONE,), (0, 0), 0, 1), worths)
        self.told(False, ("surely better", better, (ONE,), (0, 0), 0, 1), worths[::-1])
        self.told(False, ("surely better", better, (ONE,), (0, 0), 0, 0), worths)

    def test_rows_left(self):
        dim = draw_dim(5, 4, 2, 2, 1)
        claim, paper = certify_rows_left(dim, (ONE,), 2)
        self.told(True, claim, paper)
        self.told(False, claim, paper[:1])
        self.told(False, claim, paper + paper[1:])
        self.told(False, (*claim[:3], 1, claim[4]), paper)
        self.told(False, (*claim[:4], claim[4][::-1]), paper)
        zero, none = certify_rows_left(dim, (ONE,), 0)
        self.told(True, zero, none)
        self.assertEqual(none, ())
        self.told(False, (*zero[:4], ((), ())), ())

    def test_texts(self):
        self.told(True, ("reads", TOLD, MARKET), ())
        self.told(True, ("reads", TOLD.replace("1/2", "2/4"), MARKET), ())
        self.told(False, ("reads", TOLD + "\n", MARKET), ())
        self.told(False, ("reads", TOLD.replace("1/2 home", "1/3 home"), MARKET), ())
        self.told(False, ("reads", TOLD.replace("1/2 home", "1/2 hom"), MARKET), ())
        self.told(False, ("reads", TOLD.replace("share 1/2", "share 3/2"), MARKET), ())
        self.told(False, ("reads", TOLD.encode(), MARKET), ())
        self.told(False, ("reads", TOLD, MARKET[0]), ())

    def test_runs(self):
        start, player = (ONE, NIL), ("still", TOSSED)
        way = ((0, 0, 1), (1, 0, 0))
        self.told(True, ("run", SHOP, start, player, (NIL, QUARTER, (3, 4), HALF, NIL), way), ())
        self.told(False, ("run", SHOP, start, player, (NIL, HALF, (3, 4), HALF, NIL), way), ())
        self.told(False, ("run", SHOP, start, player, (NIL, QUARTER, (3, 4), HALF), way), ())
        self.told(False, ("run", SHOP, start, player, (NIL, QUARTER, (3, 4), HALF, ONE), way), ())
        self.told(True, ("way", SHOP, start, player, way, QUARTER), ())
        self.told(False, ("way", SHOP, start, player, way, (2, 8)), ())
        self.told(True, ("way", SHOP, start, player, ((1, 0, 0),), NIL), ())
        self.told(True, ("way", SHOP, start, player, (), ONE), ())

    def test_ways(self):
        start, player = (ONE, NIL), ("still", TOSSED)
        pairs = ((((0, 0, 0),), QUARTER), (((0, 0, 1),), QUARTER), (((0, 1, 0),), HALF))
        claim = ("ways", SHOP, start, player, 1, ((3, 2), HALF))
        self.told(True, claim, pairs)
        self.told(False, claim, pairs[::-1])
        self.told(False, claim, pairs[:2])
        self.told(False, claim, pairs + pairs[2:])
        self.told(False, claim, ((((0, 0, 0),), HALF), *pairs[2:]))
        self.told(False, claim, pairs + ((((1, 0, 0),), NIL),))
        self.told(False, (*claim[:5], ((3, 2), ONE)), pairs)
        self.told(False, (*claim[:4], 2, claim[5]), pairs)
        self.told(True, (*claim[:4], 0, (NIL, NIL)), (((), ONE),))
        # More ways than are told by the package are a paper, too.
        house = (HALF, 1, (((((0, ONE),), (ONE,)), (((0, ONE),), (NIL,))),))
        many = []
        for code in range(512):
            many.append((tuple((0, code >> 8 - at & 1, 0) for at in range(9)), (1, 512)))
        told = ("ways", house, (ONE,), ("still", ((HALF, HALF),)), 9, (pair(1 - Fraction(1, 512)),))
        self.told(True, told, tuple(many))
        self.told(False, told, tuple(many[:-1]))

    def test_missed(self):
        start, player = (ONE, NIL), ("still", TOSSED)
        claim = ("missed", SHOP, start, player, 2, (3, 4))
        self.told(True, claim + ((7, 9),), ())
        self.told(False, claim + ((1, 16),), ())
        # All ways: missed are those on which one works twice and both times stays.
        pairs = ways(SHOP, start, player, 2)
        self.told(True, claim + ((1, 16),), pairs)
        self.told(True, claim + ((1, 15),), pairs)
        self.told(False, claim + ((1, 17),), pairs)
        self.told(False, claim + ((1, 16),), pairs[1:])
        self.told(False, claim + ((1, 17),), ())
        self.told(False, ("missed", SHOP, start, player, 61, (3, 4), (100, 1)), ())
        self.told(True, ("missed", SHOP, start, player, 60, (3, 4), (100, 1)), ())
        self.told(False, ("missed", SHOP, start, player, 2, NIL, (100, 1)), ())
        self.told(True, ("missed", SHOP, start, player, 0, (3, 4), NIL), (((), ONE),))
        self.told(True, ("missed", SHOP, start, player, 0, (3, 4), NIL), ())
        self.told(False, ("missed", SHOP, start, player, 0, (3, 4), (-1, 9)), ())

    def test_same_and_brings(self):
        later = ("told", ((((0,), (NIL, ONE)), ((0, 1, 0), (ONE, NIL))), still_of(SHOP, (0, 0))))
        self.told(True, ("brings", SHOP, (ONE, NIL), later, ((13, 5), ONE)), ())
        self.told(False, ("brings", SHOP, (ONE, NIL), later, ((13, 5), TWO)), ())
        self.told(True, ("same", SHOP, (ONE, NIL), later, (((4, 9), (5, 9)), (ONE,))), ())
        self.told(False, ("same", SHOP, (ONE, NIL), later, plain(SHOP, (1, 0))), ())
        self.told(True, ("same", SHOP, (ONE, NIL), ("still", plain(SHOP, (1, 0))), plain(SHOP, (1, 0))), ())

    def test_rows_above_and_mixed(self):
        rows = ((NIL, (3, 2)), ((3, 2), NIL))
        self.told(True, ("row mixed", rows, (HALF, HALF)), (HALF, HALF))
        self.told(False, ("row mixed", rows, (ONE, ONE)), (HALF, HALF))
        self.told(True, ("row above", rows, (ONE, ONE)), (HALF, HALF))
        self.told(False, ("row above", rows, (ONE, ONE)), (NIL, ONE))
        self.told(False, ("row above", rows, (ONE, ONE)), (ONE, ONE))
        self.told(False, ("row above", rows, ((3, 4), (3, 4))), (HALF, HALF))
        self.told(True, ("row mixed", rows, ((3, 4), (3, 4))), (HALF, HALF))
        source = random.Random(3)
        many = tuple(draw_row(source, 2) for _ in range(61))
        self.told(True, ("row above", many[:60], ((99, 1), (99, 1))), (HALF, HALF))
        self.told(False, ("row above", many, ((99, 1), (99, 1))), (HALF, HALF))
        self.told(False, ("row above", (), (ONE,)), (ONE,))


if __name__ == "__main__":
    unittest.main()
