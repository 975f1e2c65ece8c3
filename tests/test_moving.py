"""Moving: [34], [35], [36], [37]."""

import copy
import unittest

from gonemarks.books import first_book, known_seats, right_book
from gonemarks.errors import NoDeed
from gonemarks.letters import tell_all
from gonemarks.moving import bring, cut, doubtful, leave
from gonemarks.taking import passes_over
from tests.samples import FORTY, ODD, RIGHT, SEATS, book, drawn_book, spoiled
from tests.steps import left_again, some_worlds
from tests.walks import books_in, brought_child, is_over, with_cut

A, B, C = ((0,), 1), ((0,), 2), ((1,), 1)
THING, OTHER = ((), "a", 1), ((), "b", 2)


class Case(unittest.TestCase):
    def asked_twice(self, ask, *handed):
        """What is told, the same one twice; what is handed in stays as it was."""
        kept = copy.deepcopy(handed)
        told = ask(*handed)
        self.assertEqual(ask(*handed), told)
        self.assertEqual(handed, kept)
        return told

    def refused(self, word, ask, *handed):
        kept = copy.deepcopy(handed)
        for _ in range(2):
            with self.assertRaises(NoDeed) as caught:
                ask(*handed)
            self.assertEqual(caught.exception.word, word)
        self.assertEqual(handed, kept)


class Bringing(Case):
    def test_of_a_first_book(self):
        told = self.asked_twice(bring, first_book((1,), 2))
        self.assertEqual(told, (book((1,), 2, brought=1), book((1, 1), 2)))

    def test_of_a_grown_book_at_turn_0(self):
        """No fence of the parent's seat; all else is its own."""
        one = book((0,), 3, 0, 3, 1, ((A, THING),), ((B, (((0,), 0, 1),)),), (((1,), 4),), (((2,), 1),),
                   (((1,), 9, 2),))
        behind, child = self.asked_twice(bring, one)
        self.assertEqual(behind, one[:4] + (2,) + one[5:])
        self.assertEqual(child, book((0, 2), 3, 0, 0, 0, ((A, THING),), ((B, (((0,), 0, 1), ((0, 2), 0, 0))),),
                                     (((1,), 4),), (((2,), 1),), (((1,), 9, 2),)))

    def test_of_a_grown_book_above_turn_0(self):
        """The parent's turn is the child's fence of it, in its place among the others."""
        fences = (((0,), 2), ((1, 1), 5), ((2,), 7))
        one = book((1,), 3, 6, 0, 1, fences=fences)
        behind, child = self.asked_twice(bring, one)
        self.assertEqual(behind, book((1,), 3, 6, 0, 2, fences=fences))
        self.assertEqual(child, book((1, 2), 3, fences=(((0,), 2), ((1,), 6), ((1, 1), 5), ((2,), 7))))

    def test_turn_1_is_a_fence(self):
        self.assertEqual(bring(book((0,), 1, 1))[1], book((0, 1), 1, fences=(((0,), 1),)))

    def test_acks_rise(self):
        acks = (((0,), 1, 0), ((1,), 2, 1), ((1, 1), 0, 0), ((2,), 3, 3))
        one = book((1,), 3, 4, 0, 1, marks=((A, acks), (B, (((1,), 4, 0), ((1, 1, 4), 2, 2)))))
        child = bring(one)[1]
        self.assertEqual(child[6], ((A, acks[:3] + (((1, 2), 0, 0), acks[3])),
                                    (B, (((1,), 4, 0), ((1, 1, 4), 2, 2), ((1, 2), 0, 0)))))

    def test_the_hundredth_isnt_brought(self):
        one = book((0,), 1, 2, brought=98)
        behind, child = bring(one)
        self.assertEqual((behind[4], child[0]), (99, (0, 99)))
        self.refused("many", bring, behind)
        self.refused("many", bring, book((0, 99, 1, 1), 1, brought=99))

    def test_a_seat_of_four_numbers_brings_one_of_five(self):
        behind, child = bring(book((0, 1, 2, 3), 1, 1, brought=6))
        self.assertEqual(child, book((0, 1, 2, 3, 7), 1, fences=(((0, 1, 2, 3), 1),)))
        self.assertIs(right_book(child), True)

    def test_a_seat_of_five_numbers_brings_none(self):
        self.refused("deep", bring, book((0, 1, 2, 3, 4), 1))
        self.refused("deep", bring, book((3, 99, 99, 99, 99), 4, 5, 1, marks=()))
        self.refused("deep", bring, book((0, 1, 2, 3, 4), 1, brought=99))

    def test_drawn_books(self):
        many = 0
        for one in [*RIGHT, *[one for world in some_worlds() for one in books_in(world).values()]]:
            if len(one[0]) == 5:
                self.refused("deep", bring, one)
                continue
            behind, child = self.asked_twice(bring, one)
            self.assertEqual((behind, child), brought_child(one))
            self.assertIs(right_book(behind), True)
            self.assertIs(right_book(child), True)
            self.assertEqual(child[5], one[5])
            many += len(one[6])
        self.assertGreater(many, 500)


class Cutting(Case):
    def test_a_root(self):
        one = book((0,), 2, 3, 1, things=((A, THING),))
        self.assertEqual(self.asked_twice(cut, one, (1,)), book((0,), 2, 3, 1, things=((A, THING),), cuts=(((1,), 0),)))

    def test_with_children_known(self):
        """m is the greatest child that is known, by whatever: here (1, 3) by a dot far below it."""
        far = (((1, 3, 2), 1), THING)
        one = book((0,), 2, things=(far,))
        self.assertEqual(cut(one, (1,))[8], (((1,), 3),))
        self.assertEqual(cut(one, (1, 3))[8], (((1, 3), 2),))
        self.assertEqual(cut(one, (1, 3, 2))[8], (((1, 3, 2), 0),))
        self.assertEqual(cut(one, (1, 3, 1))[8], (((1, 3, 1), 0),))
        self.assertEqual(cut(one, (1, 2))[8], (((1, 2), 0),))

    def test_of_each_way_to_know_children(self):
        ways = [
            book((0,), 2, things=((((1, 4), 1), THING),)),
            book((0,), 2, things=((C, (((1, 4), 2), "a", 0)),)),
            book((0,), 2, 1, marks=((((1, 4), 1), (((0,), 0, 0),)),)),
            book((0,), 2, 1, marks=((C, (((0,), 0, 0), ((1, 4), 0, 0))),)),
            book((0,), 2, 1, marks=((C, (((0,), 0, 0), ((1,), 0, 4))),)),
            book((0,), 2, fences=(((1, 4), 2),)),
            book((0,), 2, cuts=(((1, 4), 0),)),
            book((0,), 2, lefts=(((1, 4), 0, 0),)),
            book((0,), 2, lefts=(((1,), 0, 4),)),
        ]
        for one in ways:
            self.assertIs(right_book(one), True)
            behind = self.asked_twice(cut, one, (1,))
            self.assertEqual(behind[8], tuple(sorted([*one[8], ((1,), 4)])))
            self.assertEqual(behind[:8] + behind[9:], one[:8] + one[9:])
            self.assertIs(right_book(behind), True)

    def test_a_seat_known_by_a_told_m_alone(self):
        one = book((0,), 2, 1, marks=((C, (((0,), 0, 0), ((1,), 0, 2))),))
        for seat in [(1, 1), (1, 2)]:
            self.assertEqual(cut(one, seat)[8], ((seat, 0),))
        self.refused("seat", cut, one, (1, 3))
        self.assertEqual(cut(book((0,), 1, brought=2), (0, 1))[8], (((0, 1), 0),))
        self.refused("seat", cut, book((0,), 1, brought=2), (0, 3))

    def test_a_stem_of_the_own_seat(self):
        """The own child's number stays below m, so the own seat isn't behind the cut."""
        one = book((0, 3, 2), 1, brought=1)
        behind = cut(one, (0,))
        self.assertEqual(behind[8], (((0,), 3),))
        self.assertIs(right_book(behind), True)
        self.assertEqual(cut(behind, (0, 3))[8], (((0,), 3), ((0, 3), 2)))
        self.assertEqual([passes_over(behind, seat) for seat in [(0,), (0, 3), (0, 4)]], [True, False, True])

    def test_cuts_rise(self):
        one = book((0,), 4)
        for seat in [(2,), (3,), (1,)]:
            one = cut(one, seat)
        self.assertEqual(one[8], (((1,), 0), ((2,), 0), ((3,), 0)))

    def test_refusals(self):
        one = book((0,), 3, brought=1, cuts=(((1,), 1),))
        self.refused("own", cut, one, (0,))
        self.refused("again", cut, one, (1,))
        self.refused("seat", cut, one, (1, 2))
        self.refused("seat", cut, one, (3,))
        self.refused("seat", cut, one, (0, 2))
        self.assertEqual(cut(one, (1, 1))[8], (((1,), 1), ((1, 1), 0)))
        behind = book((0,), 2, fences=(((1, 2, 1), 1),), cuts=(((1,), 0),))
        for seat in [(1,), (1, 1), (1, 2), (1, 2, 1)]:
            self.refused("again", cut, behind, seat)
        self.refused("seat", cut, behind, (1, 3))

    def test_of_any_plain_thing(self):
        one = book((0,), 2, brought=1)
        for seat in [(0,), (1,), (0, 1)]:
            for thing in spoiled(seat):
                self.refused("seat", cut, one, thing)
        for thing in [thing for thing in ODD if thing != (0,)]:
            self.refused("seat", cut, one, thing)
        for thing in [(True,), (False,), [1], [0], (0, True), ((1,),), "1", 1, (4,), (-1,), (0, 0), (0, 100),
                      (0, 1, 1, 1, 1, 1), (FORTY,), [[(1,)]]]:
            self.refused("seat", cut, one, thing)

    def test_drawn_books(self):
        many = 0
        for one in RIGHT[:150]:
            known = known_seats(one)
            for seat in sorted({*SEATS[::3], *known}):
                if seat not in known:
                    self.refused("seat", cut, one, seat)
                elif seat == one[0]:
                    self.refused("own", cut, one, seat)
                elif is_over(one, seat):
                    self.refused("again", cut, one, seat)
                else:
                    behind = cut(one, seat)
                    self.assertEqual(behind, with_cut(one, seat))
                    self.assertIs(right_book(behind), True)
                    self.assertIs(passes_over(behind, seat), True)
                    self.refused("again", cut, behind, seat)
                    many += 1
        self.assertGreater(many, 500)


class Leaving(Case):
    def test_of_first_books(self):
        told = self.asked_twice(leave, first_book((0,), 2), first_book((1,), 2))
        self.assertEqual(told, (((0,), 0, (), (), ()), book((1,), 2, lefts=(((0,), 1, 0),))))

    def test_of_grown_books(self):
        one = book((0,), 3, 4, 2, 1, ((A, THING), (C, OTHER)), ((B, (((0,), 2, 0),)),), lefts=(((2,), 5, 0),))
        other = book((1,), 3, 7, 1, 3, ((B, THING), (C, OTHER)), lefts=())
        letter, behind = self.asked_twice(leave, one, other)
        self.assertEqual(letter, ((0,), 4, ((A, THING), (C, OTHER)), ((B, (((0,), 2, 0),)),), (((2,), 5, 0),)))
        self.assertEqual(behind, book((1,), 3, 7, 1, 3, ((A, THING), (C, OTHER)), ((B, (((0,), 2, 0), ((1,), 7, 3))),),
                                      lefts=(((0,), 5, 1), ((2,), 5, 0))))
        self.assertEqual(letter, tell_all(one)[1])

    def test_refusals(self):
        one, other = first_book((0,), 2), first_book((1,), 2)
        self.refused("own", leave, one, one)
        self.refused("own", leave, one, book((0,), 2, 3, 1, cuts=(((1,), 0),)))
        self.refused("over", leave, one, cut(other, (0,)))
        child = book((0, 1), 2)
        self.refused("over", leave, child, cut(other, (0,)))
        self.assertEqual(leave(cut(one, (1,)), other)[1], book((1,), 2, lefts=(((0,), 1, 0),)))

    def test_the_parent_may_be_passed_over_and_the_child_not(self):
        other = book((1,), 2, cuts=(((0,), 1),))
        self.refused("over", leave, book((0,), 2, brought=2), other)
        self.refused("over", leave, book((0, 2), 2), other)
        self.assertEqual(leave(book((0, 1), 2), other)[1][9], (((0, 1), 1, 0),))

    def test_in_drawn_worlds(self):
        many = 0
        for world in some_worlds(8):
            books = books_in(world)
            for seat, one in books.items():
                for other, page in books.items():
                    if seat == other:
                        self.refused("own", leave, one, page)
                    elif is_over(page, seat):
                        self.refused("over", leave, one, page)
                    else:
                        letter, behind = self.asked_twice(leave, one, page)
                        wanted = left_again(world, seat, other)
                        self.assertIn(letter, wanted[2])
                        self.assertEqual(behind, books_in(wanted)[other])
                        self.assertIs(right_book(behind), True)
                        self.nothing_is_lost(one, page, behind)
                        many += 1
        self.assertGreater(many, 300)

    def nothing_is_lost(self, one, page, behind):
        for dot, thing in one[5] + page[5]:
            if dot not in dict(behind[6]):
                self.assertIn((dot, thing), behind[5])


class Doubtful(Case):
    def test_each_state_of_a_dot(self):
        one = book((0,), 2, 1, 2, things=((A, THING),), marks=((B, (((0,), 0, 0),)),))
        elder = book((1,), 2, 9, 1, things=((A, OTHER), (B, THING), (C, OTHER), (((1, 2), 5), THING)))
        self.assertEqual(self.asked_twice(doubtful, one, elder), ((C, OTHER), (((1, 2), 5), THING)))
        self.assertEqual(doubtful(elder, one), ())

    def test_of_the_same_seat(self):
        elder = book((0,), 2, 0, 2, things=((A, THING), (B, (A, "b", 2))))
        self.assertEqual(doubtful(book((0,), 2, 3, 4), elder), elder[5])
        self.assertEqual(doubtful(elder, elder), ())
        self.assertEqual(doubtful(elder, first_book((0,), 2)), ())

    def test_of_any_elder_book(self):
        """The elder one needn't be right: here it marks what it holds, and has roots of its own."""
        elder = book((3, 1), 1, things=((A, THING), (C, OTHER)), marks=((C, ()),))
        self.assertEqual(doubtful(book((0,), 2, 0, 1, things=((A, THING),)), elder), ((C, OTHER),))

    def test_drawn_books(self):
        many = 0
        for number, one in enumerate(RIGHT):
            elder = drawn_book(number + 1000)
            wanted = tuple(row for row in elder[5] if row[0] not in dict(one[5] + one[6]))
            self.assertEqual(self.asked_twice(doubtful, one, elder), wanted)
            many += len(wanted)
        self.assertGreater(many, 50)


if __name__ == "__main__":
    unittest.main()
