"""Letters: [25], [26]."""

import copy
import itertools
import unittest

from gonemarks.errors import GoneError, NoDeed
from gonemarks.letters import is_letter, is_right_letter, tell, tell_all
from tests.samples import FORTY, ODD, RIGHT, book, spoiled

A, B, C = ((0,), 1), ((0,), 2), ((1,), 1)
THING = ((), "a", 1)
ACKS = (((0,), 2, 0), ((1,), 9, 1))
WHOLE = ((0,), 2, ((A, THING), (C, (A, "b", -1))), ((B, ACKS), (((1,), 5), ACKS[:1])), (((1,), 3, 1), ((2,), 0, 0)))


class Letters(unittest.TestCase):
    def told(self, letter, fits, right):
        kept = copy.deepcopy(letter)
        for _ in range(2):
            self.assertIs(is_letter(letter), fits, letter)
            self.assertIs(is_right_letter(letter), right, letter)
        self.assertEqual(repr(letter), repr(kept))

    def test_right_ones(self):
        self.told(((0,), 0, (), (), ()), True, True)
        self.told(((3, 1, 1, 1, 1), FORTY, (), (), ()), True, True)
        self.told(((0,), 0, ((A, THING),), (), ()), True, True)
        self.told(((0,), 2, (), ((B, ACKS),), ()), True, True)
        self.told(((0,), 0, (), (), (((1,), 0, 0),)), True, True)
        self.told(WHOLE, True, True)

    def test_kinds(self):
        for thing in [*ODD, *spoiled(WHOLE), WHOLE[:4], WHOLE + ((),), list(WHOLE), book()]:
            self.told(thing, False, False)

    def test_bounds(self):
        self.told(((0,), -1, (), (), ()), False, False)
        self.told(((4,), 0, (), (), ()), False, False)
        self.told(((), 0, (), (), ()), False, False)
        self.told(((0,), 0, ((A, ((), "a", 1000)),), (), ()), False, False)
        self.told(((0,), 0, ((B, THING), (A, THING)), (), ()), False, False)
        self.told(((0,), 2, (), ((B, ACKS), (A, ACKS)), ()), False, False)
        self.told(((0,), 2, (), ((A, ACKS), (A, ACKS)), ()), False, False)
        self.told(((0,), 0, (), (), (((1,), 0, 100),)), False, False)
        self.told(((0,), 0, (), (), (((2,), 0, 0), ((1,), 0, 0))), False, False)

    def test_each_mark_has_an_ack_of_the_letters_seat(self):
        self.told(((0,), 2, (), ((B, ()),), ()), False, False)
        self.told(((2,), 2, (), ((B, ACKS),), ()), False, False)
        self.told(((0,), 9, (), ((A, ACKS), (B, ACKS[1:])), ()), False, False)
        self.told(((1,), 9, (), ((A, ACKS), (B, ACKS[1:])), ()), True, True)

    def test_no_dot_as_thing_and_as_mark(self):
        self.told(((0,), 2, ((A, THING), (B, THING)), ((B, ACKS),), ()), True, False)
        self.told(((0,), 2, ((A, THING),), ((B, ACKS),), ()), True, True)
        self.told(((0,), 2, ((A, (B, "a", 1)),), ((B, ACKS),), ()), True, True)

    def test_own_ack_no_later_than_the_letter(self):
        self.told(((0,), 1, (), ((B, ACKS),), ()), True, False)
        self.told(((0,), 3, (), ((B, ACKS),), ()), True, True)
        self.told(((1,), 8, (), ((B, ACKS),), ()), True, False)
        self.told(((0,), 1, (), ((A, (((0,), 1, 0),)), (B, ACKS)), ()), True, False)

    def test_no_left_of_its_own_seat(self):
        self.told(((0,), 1, (), (), (((0,), 0, 0),)), True, False)
        self.told(((1,), 1, (), (), (((0,), 0, 0), ((1,), 0, 0))), True, False)
        self.told(((2,), 1, (), (), (((0,), 0, 0), ((1,), 0, 0))), True, True)


class Telling(unittest.TestCase):
    ONE = book((0,), 2, 7, 4, 0, ((A, THING), (C, (A, "b", 2))), ((B, ACKS), (((0,), 3), ACKS[:1])),
               (((1,), 2),), (), (((1,), 9, 1),))

    def test_what_is_told(self):
        behind, letter = tell(self.ONE, [A, B])
        self.assertEqual(letter, ((0,), 7, ((A, THING),), ((B, ACKS),), (((1,), 9, 1),)))
        self.assertEqual(behind, self.ONE[:2] + (8,) + self.ONE[3:])
        self.assertIs(type(tell(self.ONE, [A])), tuple)

    def test_lists_and_tuples_in_any_order_twice(self):
        told = tell(self.ONE, [A, B, C])
        for dots in itertools.permutations([A, B, C]):
            self.assertEqual(tell(self.ONE, dots), told)
            self.assertEqual(tell(self.ONE, list(dots)), told)
            self.assertEqual(tell(self.ONE, list(dots) + [A, B, B]), told)

    def test_none_and_all(self):
        self.assertEqual(tell(self.ONE, []), (self.ONE[:2] + (8,) + self.ONE[3:], ((0,), 7, (), (), self.ONE[9])))
        self.assertEqual(tell(self.ONE, ()), tell(self.ONE, []))
        whole = (self.ONE[:2] + (8,) + self.ONE[3:], ((0,), 7, self.ONE[5], self.ONE[6], self.ONE[9]))
        self.assertEqual(tell_all(self.ONE), whole)
        self.assertEqual(tell(self.ONE, [C, ((0,), 3), B, A]), whole)
        self.assertEqual(tell_all(book()), (book(turn=1), ((0,), 0, (), (), ())))

    def test_refused(self):
        wrong = [((0,), 4), ((1,), 2), ((3,), 1), ((0,), True), ((False,), 1), ((0,), 0), (), None, True, 1, "0:1", [(0,), 1], [],
                 ([0], 1), ((0,), 1, 1), (A,), [A], [[]], ((0,), [1]), "", ((0,), "1"), ((0,),), (0,)]
        for dot in wrong:
            for dots in ([dot], (dot,), [A, dot], (dot, A), [A, B, C, dot]):
                kept = copy.deepcopy((self.ONE, dots))
                with self.assertRaises(NoDeed) as caught:
                    tell(self.ONE, dots)
                self.assertEqual(caught.exception.word, "dot")
                self.assertEqual((type(caught.exception), NoDeed.__bases__), (NoDeed, (GoneError,)))
                self.assertEqual(repr((self.ONE, dots)), repr(kept))

    def test_what_is_handed_in_stays(self):
        dots = [B, A, B]
        told = tell(self.ONE, dots)
        self.assertEqual(dots, [B, A, B])
        dots.clear()
        self.assertEqual(told, tell(self.ONE, [A, B]))

    def test_right_books_tell_right_letters(self):
        for one in RIGHT:
            dots = [row[0] for row in one[5] + one[6]]
            for told in (dots, dots[::2], dots[1::2], dots[::-1]):
                behind, letter = tell(one, told)
                self.assertIs(is_right_letter(letter), True)
                self.assertEqual(behind, one[:2] + (one[2] + 1,) + one[3:])
                self.assertEqual(letter[:2] + letter[4:], (one[0], one[2], one[9]))
                self.assertEqual(letter[2], tuple(row for row in one[5] if row[0] in told))
                self.assertEqual(letter[3], tuple(row for row in one[6] if row[0] in told))
            self.assertEqual(tell_all(one), tell(one, dots))


if __name__ == "__main__":
    unittest.main()
