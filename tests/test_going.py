"""Letting a mark go: [43], [44]."""

import copy
import unittest

from gonemarks.books import right_book
from gonemarks.errors import GoneError, NoDeed, NoPaper
from gonemarks.gochecker import is_paper, lets_go
from gonemarks.going import let_go, paper_for
from gonemarks.knowing import closure, lacking, reach_of
from tests.samples import ODD, RIGHT, book, spoiled

DOT, OTHER = ((1,), 2), ((1,), 1)
ACKS = (((0,), 4, 2), ((0, 1), 0, 0), ((1,), 3, 0))
ONE = book((1,), 3, 5, 2, 0, (), ((OTHER, (((1,), 0, 0),)), (DOT, ACKS)), (((0, 2), 9),), (((0, 2), 0),),
           (((2,), 6, 0),))
PAPER = (((0,), "has", 4, 2), ((0, 1), "has", 0, 0), ((0, 2), "cut", 0, 0), ((1,), "has", 3, 0), ((2,), "left", 6, 0))


class Papers(unittest.TestCase):
    def test_paper(self):
        self.assertIs(right_book(ONE), True)
        self.assertEqual(paper_for(ONE, DOT), PAPER)
        self.assertIs(lets_go(ONE, DOT, paper_for(ONE, DOT)), True)

    def test_none_where_somebody_lacks(self):
        self.assertIsNone(paper_for(ONE, OTHER))
        for at in range(3):
            fewer = ONE[:6] + (((DOT, tuple(ack for k, ack in enumerate(ACKS) if k != at or ack[0] == (1,))),),) + ONE[7:]
            self.assertEqual(paper_for(fewer, DOT) is None, at != 2)
        self.assertIsNone(paper_for(ONE[:9] + ((),), DOT))
        self.assertIsNone(paper_for(ONE[:8] + ((),) + ONE[9:], DOT))

    def test_the_least_m(self):
        """Only the cut's m is small enough for nobody to lack."""
        one = book((1,), 2, 5, 2, 0, (), ((DOT, (((0,), 4, 1), ((1,), 0, 0))),), (), (((0,), 0),), (((0,), 5, 1),))
        self.assertIs(right_book(one), True)
        self.assertEqual(paper_for(one, DOT), (((0,), "cut", 0, 0), ((1,), "has", 0, 0)))
        other = book((1,), 2, 5, 2, 0, (), ((DOT, (((0,), 4, 0), ((1,), 0, 0))),), (), (((0,), 1),), (((0,), 5, 1),))
        self.assertIs(right_book(other), True)
        self.assertEqual(paper_for(other, DOT), (((0,), "has", 4, 0), ((1,), "has", 0, 0)))

    def test_drawn_books(self):
        told = {True: 0, False: 0}
        for one in RIGHT:
            for dot, acks in one[6]:
                paper = paper_for(one, dot)
                told[paper is None] += 1
                self.assertEqual(paper is None, lacking(one, dot) != ())
                if paper is not None:
                    self.assertIs(is_paper(paper), True)
                    self.assertIs(lets_go(one, dot, paper), True)
                    self.assertEqual([row[0] for row in paper], list(closure(one, dot)))
                    self.assertEqual([row[3] for row in paper], [reach_of(one, dot, row[0]) for row in paper])
                self.assertEqual(paper_for(one, dot) is None, paper is None)
        self.assertGreater(min(told.values()), 30)


class Going(unittest.TestCase):
    def refused(self, error, fields, one, dot, thing):
        kept = copy.deepcopy((one, dot, thing))
        for _ in range(2):
            with self.assertRaises(error) as caught:
                let_go(one, dot, thing)
            self.assertEqual(vars(caught.exception), fields)
            self.assertEqual((type(caught.exception), error.__bases__), (error, (GoneError,)))
        self.assertEqual(repr((one, dot, thing)), repr(kept))

    def test_gone(self):
        behind = let_go(ONE, DOT, PAPER)
        fences = (((0,), 4), ((0, 2), 9), ((2,), 6))
        self.assertEqual(behind, ONE[:6] + (ONE[6][:1], fences) + ONE[8:])
        self.assertIs(right_book(behind), True)
        self.assertIs(type(behind), tuple)
        self.assertEqual(let_go(ONE, DOT, PAPER), behind)

    def fence_behind(self, ahead, row):
        """The fences of a book that had this fence of (0,), or none at 0, and went by such a row of it."""
        word, n, m = row
        acks = (((0,), n, m),) if word == "has" else ()
        lefts = (((0,), n, m),) if word == "left" else ()
        cuts = (((0,), m),) if word == "cut" else ()
        fences = (((0,), ahead),) if ahead else ()
        one = book((1,), 2, 5, 2, 0, (), ((DOT, acks + (((1,), 3, 0),)),), fences, cuts, lefts)
        behind = let_go(one, DOT, (((0,), word, n, m), ((1,), "has", 3, 0)))
        self.assertEqual(behind[:7] + behind[8:], one[:6] + ((),) + one[8:])
        if word != "left" or ahead <= n:
            self.assertIs(right_book(behind), True)
        return behind[7]

    def test_fences(self):
        for ahead in (0, 1, 4, 5, 6):
            for n in (0, 1, 4, 5, 6):
                told = (((0,), max(ahead, n)),) if max(ahead, n) else ()
                self.assertEqual(self.fence_behind(ahead, ("has", n, 0)), told)
                if ahead <= n:
                    self.assertEqual(self.fence_behind(ahead, ("left", n, 0)), told)
            self.assertEqual(self.fence_behind(ahead, ("cut", 0, 0)), (((0,), ahead),) if ahead else ())

    def test_fences_of_rows_that_need_not_stand(self):
        one = book((1,), 2, 5, 2, 0, (), ((DOT, (((0,), 1, 0), ((0, 3), 4, 0), ((1,), 3, 0))),))
        paper = (((0,), "has", 1, 0), ((1,), "has", 3, 0))
        self.assertEqual(let_go(one, DOT, paper)[7], (((0,), 1),))
        more = (paper[0], ((0, 3), "has", 4, 0), paper[1])
        self.assertEqual(let_go(one, DOT, more)[7], (((0,), 1), ((0, 3), 4)))

    def test_by_any_row_that_is_so(self):
        one = book((1,), 2, 5, 2, 0, (), ((DOT, (((0,), 1, 0), ((1,), 3, 0))),), (), (((0,), 0),), (((0,), 6, 0),))
        for row, fences in [(("has", 1, 0), (((0,), 1),)), (("left", 6, 0), (((0,), 6),)), (("cut", 0, 0), ())]:
            self.assertEqual(let_go(one, DOT, (((0,), *row), ((1,), "has", 3, 0)))[7], fences)

    def test_no_mark(self):
        held = book((1,), 3, 5, 2, 0, ((DOT, ((), "a", 1)),))
        for thing in (PAPER, (), None, [], "a"):
            self.refused(NoDeed, {"word": "mark"}, ONE, ((1,), 3), thing)
            self.refused(NoDeed, {"word": "mark"}, ONE, ((0,), 2), thing)
            self.refused(NoDeed, {"word": "mark"}, held, DOT, thing)
            self.refused(NoDeed, {"word": "mark"}, ONE, ((True,), 2), thing)

    def test_no_paper(self):
        for thing in [*spoiled(PAPER), *[thing for thing in ODD if repr(thing) != "()"], list(PAPER), PAPER[::-1]]:
            self.refused(NoPaper, {"word": "shape", "place": -1}, ONE, DOT, thing)
        self.refused(NoPaper, {"word": "row", "place": 3}, ONE, DOT, PAPER[:3] + (((1,), "has", 4, 0),) + PAPER[4:])
        self.refused(NoPaper, {"word": "row", "place": 0}, ONE, OTHER, PAPER)
        self.refused(NoPaper, {"word": "root", "place": 0}, ONE, DOT, ())
        self.refused(NoPaper, {"word": "root", "place": 2}, ONE, DOT, PAPER[:4])
        self.refused(NoPaper, {"word": "child", "place": 0}, ONE, DOT, PAPER[:2] + PAPER[3:])

    def test_drawn_books(self):
        many = 0
        for one in RIGHT:
            for dot, acks in one[6]:
                paper = paper_for(one, dot)
                if paper is None:
                    continue
                many += 1
                kept = copy.deepcopy(one)
                behind = let_go(one, dot, paper)
                self.assertEqual(one, kept)
                self.assertIs(right_book(behind), True)
                self.assertEqual(behind[:6] + behind[8:], one[:6] + one[8:])
                self.assertEqual(behind[6], tuple(row for row in one[6] if row[0] != dot))
                self.assertEqual(behind[7], self.fences(one, paper))
        self.assertGreater(many, 30)

    def fences(self, one, paper):
        told = [*one[7], *[(seat, n) for seat, word, n, m in paper if word in ("has", "left") and seat != one[0]]]
        most = {seat: max(f for other, f in told if other == seat) for seat, f in told}
        return tuple(sorted((seat, f) for seat, f in most.items() if f))


if __name__ == "__main__":
    unittest.main()
