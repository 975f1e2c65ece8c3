"""A book's own deeds: [14], [15], [16]."""

import copy
import random
import unittest

from gonemarks.books import right_book
from gonemarks.errors import GoneError, NoDeed
from gonemarks.own import going_with, out, put, thing_of
from tests.samples import RIGHT, book
from tests.walks import books_in, walk

A, B, C, D = ((0,), 1), ((0,), 2), ((1,), 1), ((1,), 2)
THING = ((), "a", 1)
OWN = (((0,), 3, 1),)
ONE = book((0,), 2, 7, 3, 2, ((A, THING), (C, (A, "b", 2)), (D, (C, "c", -3))), ((B, OWN),), (((1,), 2),), (((0, 1), 0),))


def drawn_books():
    """Right books with things within one another, also round and within what isn't held."""
    draw = random.Random(1)
    for one in [*RIGHT[:150], *[one for number in range(40) for one in books_in(walk(number)[-1][1]).values()]]:
        dots = [row[0] for row in one[5] + one[6]]
        things = tuple((dot, (draw.choice([(), *dots]), *thing[1:])) for dot, thing in one[5])
        yield one[:5] + (things,) + one[6:]


def goes_with(things, dot, other):
    """[15] by another way: from the thing outwards, till the other one, what isn't held, or a step too many."""
    for _ in range(len(things) + 1):
        if dot not in things:
            return False
        if dot == other:
            return True
        dot = things[dot][0]
    return False


class Own(unittest.TestCase):
    def asked(self, told, function, *given):
        kept = copy.deepcopy(given)
        for _ in range(2):
            self.assertEqual(function(*given), told)
            self.assertIs(type(function(*given)), type(told))
        self.assertEqual(repr(given), repr(kept))

    def refused(self, word, function, *given):
        kept = copy.deepcopy(given)
        for _ in range(2):
            with self.assertRaises(NoDeed) as caught:
                function(*given)
            self.assertEqual(vars(caught.exception), {"word": word})
            self.assertEqual((type(caught.exception), NoDeed.__bases__), (NoDeed, (GoneError,)))
        self.assertEqual(repr(given), repr(kept))

    def test_thing_of(self):
        self.asked(THING, thing_of, ONE, A)
        self.asked((C, "c", -3), thing_of, ONE, D)
        for dot in (B, ((0,), 3), ((0,), 4), ((1,), 3), ((3, 1), 1)):
            self.asked(None, thing_of, ONE, dot)
        self.asked(None, thing_of, book(), A)

    def put_into(self, one, thing, things):
        dot = (one[0], one[3] + 1)
        behind = one[:3] + (one[3] + 1, one[4], things) + one[6:]
        self.asked((behind, dot), put, one, thing)
        self.assertIs(right_book(behind), True)
        self.assertEqual(thing_of(behind, dot), thing)

    def test_put(self):
        self.put_into(book(), THING, ((A, THING),))
        for within in ((), A, C, D):
            thing = (within, "zzzzzzzz", -999)
            self.put_into(ONE, thing, ((A, THING), (((0,), 4), thing), *ONE[5][1:]))

    def test_things_stay_rising(self):
        things = ((((0, 1), 1), THING), (C, THING), (((1, 1), 5), THING), (((2,), 1), THING))
        for seat, k in [((0,), 0), ((1,), 2), ((1, 1), 3), ((2,), 4)]:
            one = book(seat, 3, 0, 9, 1, things)
            self.put_into(one, THING, things[:k] + (((seat, 10), THING),) + things[k:])

    def test_within_that_is_not_held(self):
        """Marked, put by nobody, and the very dot that it is to get."""
        for dot in (B, ((0,), 3), ((0,), 4), ((0,), 5), ((1,), 3), ((3,), 1)):
            self.refused("within", put, ONE, (dot, "a", 1))
        self.refused("within", put, book(), (A, "a", 1))

    def test_going_with(self):
        self.asked((A, C, D), going_with, ONE, A)
        self.asked((C, D), going_with, ONE, C)
        self.asked((D,), going_with, ONE, D)
        for dot in (B, ((0,), 3), ((0,), 4), ((1,), 3), ((3, 1), 1)):
            self.asked((), going_with, ONE, dot)

    def things(self, *withins):
        """A book of the first dots of its seat, within these: by their numbers, 0 for ()."""
        rows = tuple((((0,), k), (((0,), within) if within else (), "a", k)) for k, within in enumerate(withins, 1))
        return book((0,), 2, 5, 20, 3, rows)

    def going(self, one, k, *told):
        self.asked(tuple(((0,), number) for number in told), going_with, one, ((0,), k))

    def test_a_chain(self):
        chain = self.things(2, 3, 4, 0)
        self.going(chain, 4, 1, 2, 3, 4)
        self.going(chain, 2, 1, 2)
        long = self.things(0, *range(1, 20))
        self.going(long, 1, *range(1, 21))
        self.going(long, 20, 20)

    def test_a_tree(self):
        tree = self.things(0, 1, 1, 2, 2, 3, 0, 7)
        self.going(tree, 1, 1, 2, 3, 4, 5, 6)
        self.going(tree, 2, 2, 4, 5)
        self.going(tree, 7, 7, 8)

    def test_a_round(self):
        for one, told in [(self.things(2, 1, 0), (1, 2)), (self.things(1, 0), (1,)), (self.things(2, 3, 1, 3, 4), (1, 2, 3, 4, 5))]:
            self.going(one, 1, *told)
        self.going(self.things(2, 3, 1, 3, 4), 4, 4, 5)

    def test_through_what_is_not_held(self):
        """3 is within 9, which isn't held, and 9 would be within 1: nothing goes from the one to the other."""
        one = self.things(0, 1, 9)
        self.going(one, 1, 1, 2)
        self.going(one, 9)
        marked = one[:6] + (((((0,), 9), (((0,), 0, 0),)),),) + one[7:]
        self.going(marked, 9)
        self.going(marked, 3, 3)
        self.refused("held", out, marked, ((0,), 9))

    def test_out(self):
        own = (((0,), 7, 2),)
        self.asked(ONE[:5] + ((), ((A, own), (B, OWN), (C, own), (D, own))) + ONE[7:], out, ONE, A)
        self.asked(ONE[:5] + (ONE[5][:1], ((B, OWN), (C, own), (D, own))) + ONE[7:], out, ONE, C)
        self.asked(ONE[:5] + (ONE[5][:2], ((B, OWN), (D, own))) + ONE[7:], out, ONE, D)
        round_one = self.things(2, 1, 0)
        marks = tuple((((0,), k), (((0,), 5, 3),)) for k in (1, 2))
        self.asked(round_one[:5] + (round_one[5][2:], marks) + round_one[7:], out, round_one, ((0,), 2))

    def test_out_of_what_is_not_held(self):
        for dot in (B, ((0,), 3), ((0,), 4), ((1,), 3), ((3, 1), 1)):
            self.refused("held", out, ONE, dot)
        self.refused("held", out, book(), A)
        self.refused("held", out, out(ONE, A), A)

    def test_drawn_books(self):
        """[16]: right ones again, and nothing else turns."""
        many = 0
        for one in drawn_books():
            self.assertIs(right_book(one), True)
            things = dict(one[5])
            for within in [(), *things]:
                behind, dot = put(one, (within, "a", 1))
                self.assertIs(right_book(behind), True)
                self.assertEqual(dot, (one[0], one[3] + 1))
                self.assertEqual(dict(behind[5]), {**things, dot: (within, "a", 1)})
                self.assertEqual(behind[:3] + behind[4:5] + behind[6:], one[:3] + one[4:5] + one[6:])
            for dot in things:
                going = tuple(sorted(other for other in things if goes_with(things, other, dot)))
                self.assertEqual(going_with(one, dot), going)
                behind = out(one, dot)
                self.assertIs(right_book(behind), True)
                self.assertEqual(behind[5], tuple(row for row in one[5] if row[0] not in going))
                self.assertEqual(dict(behind[6]), {**dict(one[6]), **{other: ((one[0], one[2], one[4]),) for other in going}})
                self.assertEqual(behind[:5] + behind[7:], one[:5] + one[7:])
                many += len(going) > 1
            for dot, acks in one[6]:
                self.assertEqual(going_with(one, dot), ())
                self.assertIsNone(thing_of(one, dot))
        self.assertGreater(many, 30)


if __name__ == "__main__":
    unittest.main()
