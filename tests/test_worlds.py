"""Worlds: [3], [55]."""

import copy
import unittest

from gonemarks.books import first_book
from gonemarks.worlds import (book_of, counts_of, first_world, holders, is_world, markers, seats_of, sitting,
                              tellers)
from tests.samples import FORTY, ODD, book, spoiled
from tests.walks import books_in, dots_in, walk

FIVE = (0, 1, 1, 1, 1)
A, B, C = ((0,), 1), ((0,), 2), ((1,), 1)
THING = ((), "a", 1)
ONE = book((0,), 3, 2, 2, 1, ((A, THING), (C, THING)), ((B, (((0,), 1, 0),)),))
TWO = book((1,), 3, 1, 1, 0, ((C, THING),), ((B, (((0,), 1, 0), ((1,), 0, 0))),))
FIRST = ((0,), 0, ((A, THING), (C, THING)), (), ())
SECOND = ((0,), 1, ((A, THING),), ((B, (((0,), 1, 0),)),), (((2,), 4, 0),))
THIRD = ((1,), 0, ((C, THING),), (), ())
WORLD = (3, (((0,), ONE), ((0, 1), (5, 1, 0)), ((1,), TWO), ((2,), (4, 0, 0))), (FIRST, SECOND, THIRD))


class Kind(unittest.TestCase):
    def told(self, truth, *things):
        for thing in things:
            kept = copy.deepcopy(thing)
            for _ in range(2):
                self.assertIs(is_world(thing), truth, thing)
            self.assertEqual(repr(thing), repr(kept))

    def seats(self, truth, *seats):
        self.told(truth, (2, seats, ()))

    def letters(self, truth, *letters):
        self.told(truth, (2, (), letters))

    def test_worlds(self):
        self.told(True, WORLD, (1, (), ()), (4, (), ()), *[first_world(roots) for roots in (1, 2, 3, 4)])
        self.told(True, *[world for number in range(20) for name, world in walk(number)])

    def test_other_kinds(self):
        self.told(False, *ODD, *spoiled(WORLD), ONE, FIRST, WORLD[:2], WORLD + ((),), WORLD[::-1], list(WORLD), WORLD[1])

    def test_roots(self):
        for roots in (0, 5, -1, FORTY, True, None, "1", (1,)):
            self.told(False, (roots, (), ()), (roots, *WORLD[1:]))

    def test_order_of_seats(self):
        one, two, three = (FIVE, (0, 0, 0)), ((0, 2), (0, 0, 0)), ((0, 10), (0, 0, 0))
        self.seats(True, one, two, three)
        self.seats(True, one)
        self.seats(False, two, one)
        self.seats(False, one, three, two)
        self.seats(False, one, one)
        self.seats(False, one, (FIVE, (1, 0, 0)))
        self.seats(False, (FIVE, book(FIVE)), one)
        self.told(False, (3, (WORLD[1][1], WORLD[1][0], *WORLD[1][2:]), ()), (3, WORLD[1] + WORLD[1][3:], ()))

    def test_books_of_other_seats_and_roots(self):
        """They are WORLDs; it is the small checker that refuses them."""
        self.seats(True, ((0,), book((1,), 2)), ((1,), book((1,), 4)))
        self.seats(True, (FIVE, book((1,), 2, brought=99)))

    def test_counts(self):
        for counts in [(0, 0, 0), (FORTY, FORTY, 99), (0, 0, 99)]:
            self.seats(True, ((0,), counts), ((0, 1, 1, 1), counts))
        self.seats(True, (FIVE, (FORTY, FORTY, 0)))
        for counts in [(-1, 0, 0), (0, -1, 0), (0, 0, -1), (0, 0, 100), (0, 0), (0, 0, 0, 0), (), (True, 0, 0), (0, True, 0),
                       (0, 0, True), (None, 0, 0), ("0", 0, 0), [0, 0, 0], ((0, 0, 0),)]:
            self.seats(False, ((0,), counts))
            self.seats(False, (FIVE, counts))
        self.seats(False, (FIVE, (0, 0, 1)))
        self.seats(False, (FIVE, (0, 0, 99)))

    def test_seats_and_books_that_are_none(self):
        for seat in [(), (4,), (0, 0), (0, 100), FIVE + (1,), (True,), 0, "0", [0], None]:
            self.seats(False, (seat, (0, 0, 0)))
            self.seats(False, (seat, book()))
        for one in [book(roots=5), book(turn=-1), book(things=((B, THING), (A, THING))), book()[:9], book() + ((),), None]:
            self.seats(False, ((0,), one))
        self.seats(False, ((0,),))
        self.seats(False, ((0,), book(), ()))
        self.seats(False, (0,), book())
        self.told(False, (2, ((0,), book()), ()), (2, [((0,), book())], ()), (2, None, ()), (2, "", ()))

    def test_letters(self):
        plain = [(seat, number, (), (), ()) for seat in [(0,), (0, 1), (1,)] for number in (0, 1, 10)]
        self.letters(True, *plain)
        self.letters(False, *plain[::-1])
        self.letters(False, plain[1], plain[0])
        self.letters(False, plain[3], plain[0])
        self.letters(False, *plain, plain[-1])
        self.letters(False, plain[0], plain[0])
        self.letters(False, ((0,), 0, (), (), ()), ((0,), 0, ((A, THING),), (), ()))
        self.letters(False, ((0,), 0, ((A, THING),), (), ()), ((0,), 0, (), (), ()))
        for letter in [None, (), "a", ((0,), -1, (), (), ()), ((0,), 0, (), ()), ((0,), 1, (), ((A, ()),), ()), [*FIRST]]:
            self.letters(False, letter)
            self.letters(False, letter, FIRST)
        self.told(False, (2, (), [FIRST]), (2, (), FIRST), (2, (), None), (2, (), [[]]))

    def test_letters_that_are_not_right(self):
        self.letters(True, ((3,), 0, ((A, THING),), ((A, (((3,), 5, 0),)),), (((3,), 0, 0),)))


class Told(unittest.TestCase):
    def asked(self, told, function, *given):
        kept = copy.deepcopy(given)
        for _ in range(2):
            self.assertEqual(function(*given), told)
            self.assertIs(type(function(*given)), type(told))
        self.assertEqual(given, kept)

    def test_first_worlds(self):
        self.asked((1, (((0,), book((0,), 1)),), ()), first_world, 1)
        for roots in (1, 2, 3, 4):
            seats = tuple((root,) for root in range(roots))
            self.asked((roots, tuple((seat, first_book(seat, roots)) for seat in seats), ()), first_world, roots)
            self.asked(seats, seats_of, first_world(roots))
            self.asked(seats, sitting, first_world(roots))

    def test_seats(self):
        self.asked(((0,), (0, 1), (1,), (2,)), seats_of, WORLD)
        self.asked(((0,), (1,)), sitting, WORLD)
        self.asked((), sitting, (1, (((0,), (0, 0, 0)),), ()))
        self.asked((), seats_of, (1, (), ()))
        self.asked((), sitting, (1, (), ()))

    def test_books_and_counts(self):
        for seat, one, counts in [((0,), ONE, (2, 2, 1)), ((0, 1), None, (5, 1, 0)), ((1,), TWO, (1, 1, 0)),
                                  ((2,), None, (4, 0, 0)), ((3,), None, None), ((0, 2), None, None), ((0, 1, 1), None, None)]:
            self.asked(one, book_of, WORLD, seat)
            self.asked(counts, counts_of, WORLD, seat)

    def test_by_the_seat_it_sits_at(self):
        other = book((1,), 4, 7, 8, 9, ((A, THING),), ((B, ()),))
        world = (1, (((0,), other), ((0, 1), (0, 0, 0))), ())
        self.asked(other, book_of, world, (0,))
        self.asked(None, book_of, world, (1,))
        self.asked((7, 8, 9), counts_of, world, (0,))
        self.asked(None, counts_of, world, (1,))
        self.asked(((0,),), holders, world, A)
        self.asked(((0,),), markers, world, B)

    def test_dots(self):
        for dot, held, marked, told in [(A, ((0,),), (), (((0,), 0), ((0,), 1))), (B, (), ((0,), (1,)), ()),
                                        (C, ((0,), (1,)), (), (((0,), 0), ((1,), 0))), (((0,), 3), (), (), ()),
                                        (((2,), 1), (), (), ()), (((3, 1), FORTY), (), (), ())]:
            self.asked(held, holders, WORLD, dot)
            self.asked(marked, markers, WORLD, dot)
            self.asked(told, tellers, WORLD, dot)

    def test_only_as_a_thing(self):
        world = (1, (), (((0,), 9, ((B, (A, "a", 1)),), ((C, (((0,), 2, 0),)),), ()),))
        self.asked((), tellers, world, A)
        self.asked((((0,), 9),), tellers, world, B)
        self.asked((), tellers, world, C)
        held = (1, (((0,), book(things=((B, (A, "a", 1)),))),), ())
        self.asked((), holders, held, A)

    def test_letters_of_seats_that_are_not_there(self):
        world = (1, (), (((2,), 3, ((A, THING),), (), ()), ((3, 1), 0, ((A, THING),), (), ())))
        self.asked((((2,), 3), ((3, 1), 0)), tellers, world, A)

    def test_drawn_worlds(self):
        many = 0
        for number in range(60):
            world = walk(number)[-1][1]
            books = books_in(world)
            self.asked(tuple(sorted(books)), sitting, world)
            for seat, page in world[1]:
                self.asked(books.get(seat), book_of, world, seat)
                self.asked(page if seat not in books else page[2:5], counts_of, world, seat)
            for dot in dots_in(world):
                self.asked(tuple(seat for seat in books if dot in dict(books[seat][5])), holders, world, dot)
                self.asked(tuple(seat for seat in books if dot in dict(books[seat][6])), markers, world, dot)
                self.asked(tuple(letter[:2] for letter in world[2] if dot in dict(letter[2])), tellers, world, dot)
                many += 1
        self.assertGreater(many, 100)


if __name__ == "__main__":
    unittest.main()
