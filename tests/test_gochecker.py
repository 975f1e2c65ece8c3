"""The small checker of papers: [40], [41], [42]."""

import copy
import itertools
import unittest

from gonemarks.books import right_book
from gonemarks.errors import GoneError, NoPaper
from gonemarks.gochecker import is_paper, lets_go
from gonemarks.knowing import closure, lacking
from gonemarks.names import begins
from tests.samples import FORTY, ODD, SEATS, book, drawn_book, spoiled

DOT = ((1,), 2)


class Papers(unittest.TestCase):
    def yes(self, *things):
        for thing in things:
            self.assertIs(is_paper(thing), True, thing)

    def no(self, *things):
        for thing in things:
            kept = copy.deepcopy(thing)
            self.assertIs(is_paper(thing), False, thing)
            self.assertEqual(repr(thing), repr(kept))

    def test_no_rows_and_one_of_each_word(self):
        self.yes((), (((0,), "has", 0, 0),), (((3, 9), "left", 7, 99),), (((1,), "cut", 0, 2),))
        self.yes((((0,), "has", FORTY, 99),), (((0,), "left", FORTY, 0),))

    def test_seats_rise_each_once(self):
        self.yes((((0,), "has", 0, 0), ((0, 1), "cut", 0, 0), ((1,), "left", 0, 0)))
        self.no((((1,), "has", 0, 0), ((0,), "has", 0, 0)))
        self.no((((0, 1), "has", 0, 0), ((0,), "has", 0, 0)))
        self.no((((0,), "has", 0, 0), ((0,), "has", 0, 0)))
        self.no((((0,), "cut", 0, 0), ((0,), "has", 0, 0)), (((0,), "has", 0, 0), ((0,), "left", 1, 0)))
        self.no((((0,), "has", 0, 0), ((2,), "has", 0, 0), ((1,), "has", 0, 0)))

    def test_n(self):
        self.no((((0,), "cut", 1, 0),), (((0,), "cut", -1, 0),), (((0,), "cut", FORTY, 0),))
        self.no((((0,), "has", -1, 0),), (((0,), "left", -1, 0),), (((0,), "has", -FORTY, 0),))

    def test_m(self):
        for word in ("has", "left", "cut"):
            self.yes((((0,), word, 0, 0),), (((0,), word, 0, 99),), (((0, 1, 1, 1), word, 0, 99),))
            self.no((((0,), word, 0, 100),), (((0,), word, 0, -1),), (((0,), word, 0, FORTY),))
            self.yes((((0, 1, 1, 1, 1), word, 0, 0),))
            self.no((((0, 1, 1, 1, 1), word, 0, 1),))

    def test_other_words(self):
        for word in ["", "had", "HAS", "has ", "lef", "cuts", "go", None, 0, True, (), ["has"], ("has",)]:
            self.no((((0,), word, 0, 0),))

    def test_rows_too_short_too_long(self):
        row = ((0,), "has", 0, 0)
        self.no((row[:3],), (row + (0,),), (row[:1],), ((),), row, ((0,), row), (row, ()), (row, None))

    def test_no_seats(self):
        for seat in [(), (4,), (0, 0), (0, 100), (0,) * 6, 0, "0", [0], None, ((0,),)]:
            self.no(((seat, "has", 0, 0),))

    def test_kinds_at_every_depth(self):
        self.no(*spoiled((((0, 1), "has", 1, 1), ((1,), "cut", 0, 1), ((2,), "left", 1, 0))))
        self.no(*[thing for thing in ODD if thing != () or isinstance(thing, list)])


class Letting(unittest.TestCase):
    def let_by(self, one, paper, dot=DOT):
        kept = copy.deepcopy((one, paper))
        self.assertIs(lets_go(one, dot, paper), True)
        self.assertIs(lets_go(one, dot, paper), True)
        self.assertEqual((one, paper), kept)

    def refused(self, word, place, one, paper, dot=DOT):
        kept = copy.deepcopy(paper)
        for _ in range(2):
            with self.assertRaises(NoPaper) as caught:
                lets_go(one, dot, paper)
            told = caught.exception
            self.assertEqual((told.word, told.place), (word, place))
            self.assertIs(type(told.place), int)
            self.assertIs(type(told), NoPaper)
            self.assertEqual(type(told).__bases__, (GoneError,))
        self.assertEqual(repr(paper), repr(kept))

    def sample(self, **more):
        """A right book of three roots that marks DOT: all has it, but (2,) left and (0, 2) is cut."""
        acks = (((0,), 4, 2), ((0, 1), 0, 0), ((1,), 3, 0))
        return book((1,), 3, 5, 2, 0, marks=((((1,), 1), (((1,), 0, 0),)), (DOT, acks)),
                    cuts=(((0, 2), 1),), lefts=(((2,), 6, 0),), **more)

    PAPER = (((0,), "has", 4, 2), ((0, 1), "has", 0, 0), ((0, 2), "cut", 0, 1), ((0, 2, 1), "cut", 0, 0),
             ((1,), "has", 3, 0), ((2,), "left", 6, 0))

    def whole(self):
        one = self.sample()
        return one[:8] + ((((0, 2), 1), ((0, 2, 1), 0)),) + one[9:]

    def test_let_by(self):
        self.assertIs(right_book(self.whole()), True)
        self.let_by(self.whole(), self.PAPER)
        only = book((0,), 1, 1, 1, 0, marks=((((0,), 1), (((0,), 1, 0),)),))
        self.let_by(only, (((0,), "has", 1, 0),), ((0,), 1))

    def test_any_row_of_a_seat_that_is_so_may_stand(self):
        one = book((1,), 2, 3, 2, 0, marks=((DOT, (((0,), 1, 0), ((1,), 2, 0))),), cuts=(((0,), 0),), lefts=(((0,), 5, 0),))
        for row in [("has", 1, 0), ("left", 5, 0), ("cut", 0, 0)]:
            self.let_by(one, (((0,), *row), ((1,), "has", 2, 0)))

    def test_more_rows_may_stand(self):
        one = book((1,), 2, 3, 2, 0, marks=((DOT, (((0,), 1, 0), ((0, 3), 0, 0), ((1,), 2, 0))),), cuts=(((1, 4), 0),))
        self.let_by(one, (((0,), "has", 1, 0), ((0, 3), "has", 0, 0), ((1,), "has", 2, 0), ((1, 4), "cut", 0, 0)))

    def test_shape(self):
        one = self.whole()
        for thing in [*ODD, "paper", list(self.PAPER), self.PAPER[::-1], self.PAPER + self.PAPER[-1:]]:
            if thing != () or isinstance(thing, list):
                self.refused("shape", -1, one, thing)
        for thing in spoiled(self.PAPER):
            self.refused("shape", -1, one, thing)

    def test_row_of_each_word_that_is_not_so(self):
        one = self.whole()
        for k, row in enumerate(self.PAPER):
            others = [(row[0], row[1], row[2] + 1, row[3]), (row[0], row[1], row[2], row[3] + 1)]
            others += [(row[0], word, 0 if word == "cut" else row[2], row[3]) for word in ("has", "left", "cut")]
            for other in others:
                if other != row and is_paper((other,)):
                    self.refused("row", k, one, self.PAPER[:k] + (other,) + self.PAPER[k + 1:])

    def test_row_looks_at_the_marks_own_acks_alone(self):
        one = book((1,), 2, 5, 2, 0, marks=((((1,), 1), (((0,), 4, 0), ((1,), 1, 0))), (DOT, (((1,), 2, 0),))))
        self.refused("row", 0, one, (((0,), "has", 4, 0), ((1,), "has", 2, 0)))
        self.refused("row", 0, one, (((1,), "has", 1, 0),))
        self.let_by(one, (((0,), "has", 4, 0), ((1,), "has", 1, 0)), ((1,), 1))

    def test_row_looks_at_no_fence_and_no_other_word(self):
        one = book((1,), 2, 5, 2, 0, marks=((DOT, (((1,), 2, 0),)),), fences=(((0,), 4),))
        for word, n in [("has", 4), ("left", 4), ("cut", 0)]:
            self.refused("row", 0, one, (((0,), word, n, 0), ((1,), "has", 2, 0)))

    def test_first_row_is_told(self):
        wrong = [(row[0], row[1], row[2], row[3]) for row in self.PAPER]
        wrong[1] = ((0, 1), "has", 1, 0)
        wrong[4] = ((1,), "has", 2, 0)
        self.refused("row", 1, self.whole(), tuple(wrong))

    def test_root(self):
        one = self.whole()
        self.refused("root", 0, one, ())
        self.refused("root", 0, one, self.PAPER[4:])
        self.refused("root", 1, one, self.PAPER[:4] + self.PAPER[5:])
        self.refused("root", 2, one, self.PAPER[:5])
        self.refused("root", 1, one, self.PAPER[:4])

    def test_child(self):
        one = self.whole()
        self.refused("child", 0, one, self.PAPER[:1] + self.PAPER[2:])
        self.refused("child", 0, one, self.PAPER[:2] + self.PAPER[3:])
        self.refused("child", 2, one, self.PAPER[:3] + self.PAPER[4:])

    def test_first_row_whose_child_lacks_is_told(self):
        acks = (((0,), 1, 0), ((1,), 2, 1), ((2,), 0, 1))
        one = book((1,), 3, 5, 2, 1, marks=((DOT, acks),))
        paper = tuple((seat, "has", n, m) for seat, n, m in acks)
        self.refused("child", 1, one, paper)

    def test_children_of_rows_that_need_not_stand(self):
        acks = (((0,), 1, 0), ((0, 5), 0, 1), ((1,), 2, 0))
        one = book((1,), 2, 5, 2, 0, marks=((DOT, acks),))
        paper = tuple((seat, "has", n, m) for seat, n, m in acks)
        self.refused("child", 1, one, paper)
        self.let_by(one, paper[:1] + paper[2:])

    def test_each_is_asked_of_the_whole_ahead_of_the_next(self):
        one = self.whole()
        bad_row = ((2,), "left", 5, 0)
        short = ((2,), "left", 6)
        self.refused("shape", -1, one, (((0,), "has", 3, 2), short))
        self.refused("shape", -1, one, (short,))
        self.refused("row", 1, one, (((0,), "has", 4, 2), bad_row))
        self.refused("row", 0, one, (bad_row,))
        self.refused("root", 2, one, (((0,), "has", 4, 2), ((1,), "has", 3, 0)))
        self.refused("root", 1, one, (((0,), "has", 4, 2), ((2,), "left", 6, 0)))

    def test_a_paper_is_let_by_just_where_nobody_lacks(self):
        """By trying all papers of one row or none for each seat of a few."""
        told = set()
        for number in range(150):
            one = drawn_book(number)
            for dot, acks in one[6][:1]:
                choices = self.choices(one, acks)
                if len(choices) > 6:
                    continue
                papers = itertools.product(*[[None, *rows] for rows in choices])
                let = any(self.is_let(one, dot, tuple(filter(None, paper))) for paper in papers)
                self.assertEqual(let, lacking(one, dot) == ())
                told.add(let)
        self.assertEqual(told, {True, False})

    def choices(self, one, acks):
        rows = [(seat, "has", a, m) for seat, a, m in acks]
        rows += [(seat, "left", b, m) for seat, b, m in one[9]]
        rows += [(seat, "cut", 0, m) for seat, m in one[8]]
        seats = sorted({row[0] for row in rows})
        return [[row for row in rows if row[0] == seat] for seat in seats]

    def is_let(self, one, dot, paper):
        try:
            return lets_go(one, dot, paper)
        except NoPaper:
            return False

    def test_who_is_not_passed_over_stands_there_or_comes_behind(self):
        """[42], of drawn books whose lefts have no child above their m."""
        many = 0
        for number in range(600):
            one = drawn_book(number)
            one = one[:9] + (tuple((seat, b, 2) for seat, b, m in one[9]),)
            for dot, acks in one[6]:
                if lacking(one, dot):
                    continue
                paper = tuple(self.least_row(one, acks, seat) for seat in closure(one, dot))
                self.let_by(one, paper, dot)
                many += 1
                for seat in SEATS:
                    if seat[0] < one[1] and not self.passed_over(one, seat):
                        self.assertTrue(self.covered(paper, seat), (one, paper, seat))
        self.assertGreater(many, 50)

    def least_row(self, one, acks, seat):
        rows = [row for rows in self.choices(one, acks) for row in rows if row[0] == seat]
        return sorted(rows, key=lambda row: row[3])[0]

    def passed_over(self, one, seat):
        behind = [seat[:len(y)] == y and seat[len(y):len(y) + 1] > (m,) for y, m in one[8]]
        return any(behind) or seat in [y for y, m in one[8]]

    def covered(self, paper, seat):
        if seat in [row[0] for row in paper]:
            return True
        having = [row for row in paper if row[1] == "has" and begins(seat, row[0])]
        return any(seat[len(row[0])] > row[3] for row in having)


if __name__ == "__main__":
    unittest.main()
