"""Two books: [74], [75]."""

import copy
import itertools
import unittest

from gonemarks.alike import apart, are_alike, missing
from gonemarks.books import first_book
from tests.samples import RIGHT, book
from tests.steps import some_worlds
from tests.walks import books_in

A, B, C = ((0,), 1), ((0,), 2), ((1,), 1)
THING, OTHER = ((), "a", 1), ((), "b", 2)


def marked(*dots):
    return tuple((dot, (((0,), 0, 0), ((1,), 0, 0))) for dot in dots)


def holding(things=(), marks=(), seat=(0,)):
    return book(seat, 2, 3, 4, 0, tuple(things), marked(*marks))


class Case(unittest.TestCase):
    def check(self, one, other, ways, lacks):
        """Told of both, and either way about."""
        kept = copy.deepcopy((one, other))
        for _ in range(2):
            self.assertIs(are_alike(one, other), ways == ((), ()))
            self.assertIs(are_alike(other, one), ways == ((), ()))
            self.assertEqual(apart(one, other), ways)
            self.assertEqual(apart(other, one), ways[::-1])
            self.assertEqual(missing(one, other), lacks[0])
            self.assertEqual(missing(other, one), lacks[1])
        self.assertEqual((one, other), kept)


NOTHING = ((), ())


class Alike(Case):
    def test_first_books(self):
        self.check(first_book((0,), 2), first_book((1,), 2), NOTHING, (NOTHING, NOTHING))

    def test_the_same_things(self):
        """All else may differ: seat, roots, counts, fences, cuts, lefts."""
        things = ((A, THING), (C, OTHER))
        one = book((0,), 2, 3, 4, 1, things)
        other = book((1, 1), 4, 9, 0, 0, things, (), (((0,), 2),), (((3,), 0),), (((2,), 5, 0),))
        self.check(one, other, NOTHING, (NOTHING, NOTHING))

    def test_a_thing_more(self):
        one = holding([(A, THING), (B, OTHER)])
        other = holding([(A, THING)], seat=(1,))
        self.check(one, other, ((B,), ()), (NOTHING, ((B,), ())))

    def test_a_thing_on_either_side(self):
        one = holding([(A, THING), (B, OTHER)])
        other = holding([(B, OTHER), (C, THING)], seat=(1,))
        self.check(one, other, ((A,), (C,)), (((C,), ()), ((A,), ())))

    def test_a_like_dot_with_an_unlike_thing(self):
        """Each holds it, but not just so: they are apart, and neither misses it."""
        for thing in [OTHER, ((), "b", 1), ((), "a", 2), (B, "a", 1)]:
            self.check(holding([(A, THING)]), holding([(A, thing)]), ((A,), (A,)), (NOTHING, NOTHING))

    def test_like_things_by_unlike_dots(self):
        self.check(holding([(A, THING)]), holding([(B, THING)]), ((A,), (B,)), (((B,), ()), ((A,), ())))

    def test_marks_on_either_side(self):
        self.check(holding(marks=(A,)), holding(), NOTHING, (NOTHING, ((), (A,))))
        self.check(holding(marks=(A, C)), holding(marks=(B, C)), NOTHING, (((), (B,)), ((), (A,))))

    def test_a_mark_of_what_the_other_holds(self):
        """The book that marks it misses nothing; the one that holds it misses the mark."""
        self.check(holding(marks=(A,)), holding([(A, THING)]), ((), (A,)), (NOTHING, ((), (A,))))

    def test_acks_dont_count(self):
        one = book((0,), 2, 3, 4, 0, (), ((A, (((0,), 0, 0),)),))
        other = book((1,), 2, 3, 4, 0, (), ((A, (((0,), 1, 0), ((1,), 2, 0))),))
        self.check(one, other, NOTHING, (NOTHING, NOTHING))

    def test_dots_rise_as_numbers_do(self):
        dots = [((0,), 9), ((0,), 10), ((0, 2), 1), ((0, 10), 1), ((1,), 1)]
        one = holding([(dot, THING) for dot in dots])
        other = holding(marks=[((2,), 9), ((2,), 10), ((2, 9), 1), ((2, 10), 1)])
        self.assertEqual(apart(one, other), (tuple(dots), ()))
        self.assertEqual(missing(other, one), (tuple(dots), ()))
        self.assertEqual(missing(one, other), ((), (((2,), 9), ((2,), 10), ((2, 9), 1), ((2, 10), 1))))


class Drawn(Case):
    def wanted(self, one, other):
        held, marks = dict(one[5]), dict(one[6])
        alone = tuple(sorted(dot for dot in held if (dot, held[dot]) not in set(other[5])))
        things = tuple(sorted(dot for dot in dict(other[5]) if dot not in held and dot not in marks))
        return alone, (things, tuple(sorted(dot for dot in dict(other[6]) if dot not in marks)))

    def check_both(self, one, other):
        alone, lacks = self.wanted(one, other)
        again, others = self.wanted(other, one)
        self.check(one, other, (alone, again), (lacks, others))

    def test_drawn_books(self):
        for one, other in zip(RIGHT, RIGHT[7:]):
            self.check_both(one, other)

    def test_books_of_one_world(self):
        """Where neither misses anything of the other, they are alike."""
        many = 0
        for world in some_worlds(8):
            for one, other in itertools.combinations(books_in(world).values(), 2):
                self.check_both(one, other)
                if missing(one, other) == missing(other, one) == NOTHING:
                    self.assertIs(are_alike(one, other), True)
                    many += bool(one[5])
        self.assertGreater(many, 20)


if __name__ == "__main__":
    unittest.main()
