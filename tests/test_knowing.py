"""What a book knows, and has to ask: [31], [32], [33]."""

import copy
import itertools
import unittest

from gonemarks.knowing import acks_of, asks, closure, lacking, reach_of
from tests.samples import DOTS, FORTY, SEATS, book, drawn_book

DOT = ((0,), 1)
OTHER = ((1,), 4)


class Acks(unittest.TestCase):
    def test_acks_of_marked_held_and_unknown(self):
        acks = (((0,), 3, 1), ((1,), 0, 0))
        one = book(things=((OTHER, ((), "a", 1)),), marks=((((0,), 1), ()), (((0,), 2), acks), (((0, 1), 2), acks[:1])))
        self.assertEqual(acks_of(one, ((0,), 2)), acks)
        self.assertEqual(acks_of(one, ((0, 1), 2)), acks[:1])
        self.assertEqual(acks_of(one, ((0,), 1)), ())
        self.assertEqual(acks_of(one, OTHER), ())
        self.assertEqual(acks_of(one, ((3, 9), FORTY)), ())
        self.assertEqual(acks_of(book(), DOT), ())
        self.assertIs(type(acks_of(one, ((0,), 2))), tuple)


class Reach(unittest.TestCase):
    def test_each_alone(self):
        seat = (0, 1)
        self.assertEqual(reach_of(book(marks=((DOT, ((seat, 5, 3),)),)), DOT, seat), 3)
        self.assertEqual(reach_of(book(lefts=((seat, 5, 4),)), DOT, seat), 4)
        self.assertEqual(reach_of(book(cuts=((seat, 2),)), DOT, seat), 2)
        self.assertIsNone(reach_of(book(), DOT, seat))

    def test_least_in_every_order(self):
        seat = (1,)
        for ack, left, cut in itertools.product([None, 0, 1, 2, 99], repeat=3):
            marks = ((DOT, () if ack is None else ((seat, 0, ack),)),)
            lefts = () if left is None else ((seat, 7, left),)
            cuts = () if cut is None else ((seat, cut),)
            told = [m for m in (ack, left, cut) if m is not None]
            reach = reach_of(book(marks=marks, lefts=lefts, cuts=cuts), DOT, seat)
            if told:
                self.assertEqual(reach, sorted(told)[0])
            else:
                self.assertIsNone(reach)

    def test_acks_of_other_dots_and_rows_of_other_seats_tell_nothing(self):
        marks = ((DOT, (((0,), 0, 5), ((1, 1), 0, 5))), (OTHER, (((1,), 0, 5),)))
        one = book(marks=marks, fences=(((1,), 1),), cuts=(((0,), 1), ((1, 1), 1)), lefts=(((0,), 1, 1), ((1, 1), 1, 1)))
        self.assertIsNone(reach_of(one, DOT, (1,)))
        self.assertEqual(reach_of(one, OTHER, (1,)), 5)
        self.assertEqual(reach_of(one, OTHER, (0,)), 1)
        self.assertIsNone(reach_of(one, DOT, (2,)))

    def test_of_a_dot_without_a_mark_lefts_and_cuts_count(self):
        one = book(cuts=(((0,), 2),), lefts=(((1,), 0, 1),))
        self.assertEqual([reach_of(one, DOT, (0,)), reach_of(one, DOT, (1,))], [2, 1])


class Closures(unittest.TestCase):
    def test_all_roots_are_in_it(self):
        for roots in range(1, 5):
            one = book(roots=roots)
            self.assertEqual(closure(one, DOT), tuple((root,) for root in range(roots)))
            self.assertEqual(lacking(one, DOT), closure(one, DOT))

    def test_children_up_to_a_reach_and_not_beyond(self):
        one = book(marks=((DOT, (((0,), 0, 2), ((0, 2), 0, 0), ((0, 3), 0, 1))),))
        self.assertEqual(closure(one, DOT), ((0,), (0, 1), (0, 2), (1,)))
        self.assertEqual(lacking(one, DOT), ((0, 1), (1,)))

    def test_a_seat_of_reach_0_has_no_children_there(self):
        one = book(marks=((DOT, (((0,), 3, 0), ((0, 1), 0, 1), ((1,), 2, 0))),))
        self.assertEqual(closure(one, DOT), ((0,), (1,)))
        self.assertEqual(lacking(one, DOT), ())

    def test_children_of_a_lacking_seat_are_left_out(self):
        one = book(marks=((DOT, (((0, 1), 0, 2), ((1,), 0, 1), ((1, 1, 1), 0, 0))),))
        self.assertEqual(closure(one, DOT), ((0,), (1,), (1, 1)))
        self.assertEqual(lacking(one, DOT), ((0,), (1, 1)))

    def test_the_least_m_decides(self):
        marks = ((DOT, (((0,), 0, 3), ((1,), 0, 0))),)
        self.assertEqual(closure(book(marks=marks, cuts=(((0,), 1),)), DOT), ((0,), (0, 1), (1,)))
        self.assertEqual(closure(book(marks=marks, lefts=(((0,), 9, 2),)), DOT), ((0,), (0, 1), (0, 2), (1,)))
        both = book(marks=marks, cuts=(((0,), 2),), lefts=(((0,), 9, 0),))
        self.assertEqual(closure(both, DOT), ((0,), (1,)))

    def test_down_to_seats_of_five_numbers(self):
        line = [(0,), (0, 1), (0, 1, 1), (0, 1, 1, 1)]
        acks = tuple((seat, 0, 1) for seat in line)
        one = book(roots=1, marks=((DOT, acks),))
        self.assertEqual(closure(one, DOT), (*line, (0, 1, 1, 1, 1)))
        self.assertEqual(lacking(one, DOT), ((0, 1, 1, 1, 1),))
        one = book(roots=1, marks=((DOT, acks + (((0, 1, 1, 1, 1), 0, 0),)),))
        self.assertEqual(closure(one, DOT), (*line, (0, 1, 1, 1, 1)))
        self.assertEqual(lacking(one, DOT), ())

    def test_ninety_nine_children(self):
        one = book(roots=1, cuts=(((0,), 99),))
        children = tuple((0, i) for i in range(1, 100))
        self.assertEqual(closure(one, DOT), ((0,), *children))
        self.assertEqual(lacking(one, DOT), children)

    def test_roots_beyond_the_books_are_not_in_it(self):
        one = book(roots=1, marks=((DOT, (((0,), 0, 0), ((2,), 0, 1))),), cuts=(((1,), 2),))
        self.assertEqual(closure(one, DOT), ((0,),))

    def test_drawn_books_by_another_way(self):
        for number in range(300):
            one = drawn_book(number)
            kept = copy.deepcopy(one)
            for dot in DOTS:
                reach = {seat: reach_of(one, dot, seat) for seat in SEATS}

                def within(seat):
                    if seat[0] >= one[1]:
                        return False
                    steps = [(reach[seat[:size]], seat[size]) for size in range(1, len(seat))]
                    return all(most is not None and i <= most for most, i in steps)

                inside = tuple(seat for seat in SEATS if within(seat))
                self.assertEqual(closure(one, dot), inside)
                self.assertEqual(lacking(one, dot), tuple(seat for seat in inside if reach[seat] is None))
                self.assertIs(type(closure(one, dot)), tuple)
                self.assertIs(type(lacking(one, dot)), tuple)
            self.assertEqual(one, kept)


class Asks(unittest.TestCase):
    def test_without_marks(self):
        self.assertEqual(asks(book()), ())
        self.assertEqual(asks(book(cuts=(((1,), 0),), things=((DOT, ((), "a", 1)),))), ())

    def test_marks_that_lack_nobody(self):
        acks = (((0,), 0, 0), ((1,), 0, 0))
        self.assertEqual(asks(book(marks=((DOT, acks), (OTHER, acks)))), ())

    def test_one_seat_that_two_marks_lack(self):
        acks = (((0,), 0, 0),)
        self.assertEqual(asks(book(marks=((DOT, acks), (OTHER, acks)))), (((1,), (DOT, OTHER)),))

    def test_two_seats_of_one_mark(self):
        one = book(roots=3, marks=((DOT, (((1,), 0, 0),)),))
        self.assertEqual(asks(one), (((0,), (DOT,)), ((2,), (DOT,))))

    def test_seats_and_dots_rise(self):
        first, second, third = ((0,), 2), ((0, 1), 1), ((1,), 1)
        marks = ((first, (((0,), 0, 1), ((1,), 0, 0))), (second, (((0,), 0, 0),)), (third, (((0,), 0, 1),)))
        self.assertEqual(asks(book(marks=marks)), (((0, 1), (first, third)), ((1,), (second, third))))

    def test_drawn_books(self):
        for number in range(300):
            one = drawn_book(number)
            pairs = sorted((seat, dot) for dot, acks in one[6] for seat in lacking(one, dot))
            told = asks(one)
            self.assertEqual([(seat, dot) for seat, dots in told for dot in dots], pairs)
            self.assertEqual([seat for seat, dots in told], sorted({seat for seat, dot in pairs}))
            self.assertIs(type(told), tuple)
            for row in told:
                self.assertEqual([type(row), type(row[1])], [tuple, tuple])
                self.assertNotEqual(row[1], ())
            self.assertEqual(asks(one), told)


if __name__ == "__main__":
    unittest.main()
