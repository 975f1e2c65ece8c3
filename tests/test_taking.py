"""Taking letters: [28], [29], [30]."""

import copy
import itertools
import random
import unittest

from gonemarks.books import right_book
from gonemarks.letters import tell_all
from gonemarks.taking import is_passed, passes_over, take
from tests.samples import FORTY, RIGHT, SEATS, book, drawn_book
from tests.walks import books_in, is_over, walk

A, B, C = ((0,), 1), ((0,), 2), ((1,), 1)
THING, OTHER = ((), "a", 1), ((), "b", 2)


def letter(seat=(1,), number=0, things=(), marks=(), lefts=()):
    return (seat, number, things, marks, lefts)


class Passing(unittest.TestCase):
    def over(self, one, seats, truth):
        kept = copy.deepcopy(one)
        for seat in seats:
            for _ in range(2):
                self.assertIs(passes_over(one, seat), truth, seat)
                self.assertIs(is_passed(one, letter(seat, FORTY)), truth or seat == one[0], seat)
        self.assertEqual(one, kept)

    def test_no_cut(self):
        self.over(book((0,), 2), [(0,), (1,), (0, 1), (3, 99, 99, 99, 99)], False)

    def test_a_cut(self):
        one = book((0,), 2, cuts=(((1,), 2),))
        self.over(one, [(1,), (1, 3), (1, 3, 1), (1, 3, 1, 1, 1), (1, 99)], True)
        self.over(one, [(1, 1), (1, 2), (1, 2, 1), (1, 2, 99), (1, 1, 3, 3), (0,), (0, 3), (2,), (2, 3)], False)

    def test_a_cut_at_0(self):
        one = book((0,), 2, cuts=(((1,), 0),))
        self.over(one, [(1,), (1, 1), (1, 1, 1), (1, 2)], True)
        self.over(one, [(0,), (0, 1), (2,)], False)

    def test_a_deep_cut(self):
        one = book((0,), 2, cuts=(((1, 2), 1), ((1, 3, 1, 1, 1), 0)))
        self.over(one, [(1, 2), (1, 2, 2), (1, 2, 2, 1), (1, 3, 1, 1, 1)], True)
        self.over(one, [(1,), (1, 1), (1, 3), (1, 2, 1), (1, 2, 1, 2), (1, 3, 1, 1), (1, 3, 1, 1, 2)], False)

    def test_two_cuts(self):
        one = book((0,), 2, cuts=(((1,), 3), ((1, 2), 0)))
        self.over(one, [(1,), (1, 2), (1, 2, 1), (1, 4), (1, 4, 1)], True)
        self.over(one, [(1, 1), (1, 1, 1), (1, 3), (1, 3, 5)], False)

    def test_the_own_seat(self):
        """The own seat is never passed over, though its letters are passed, even in books that aren't right."""
        for cuts in [(), (((0, 1), 0),), (((0,), 0),), (((0,), 0), ((0, 1), 0))]:
            self.over(book((0, 1), 2, cuts=cuts), [(0, 1)], False)

    def test_behind_the_cut_of_an_own_stem(self):
        one = book((0, 1, 2), 2, brought=1, cuts=(((0,), 1),))
        self.assertIs(right_book(one), True)
        self.over(one, [(0,), (0, 2), (0, 2, 1), (0, 99)], True)
        self.over(one, [(0, 1), (0, 1, 1), (0, 1, 2), (0, 1, 2, 1), (0, 1, 3)], False)

    def test_fences(self):
        one = book((0,), 2, 9, fences=(((1,), 5), ((1, 1), 7)))
        for seat, number, truth in [((1,), 0, True), ((1,), 4, True), ((1,), 5, False), ((1,), 6, False),
                                    ((1, 1), 5, True), ((1, 1), 6, True), ((1, 1), 7, False), ((1, 1), FORTY, False),
                                    ((1, 2), 0, False), ((1, 1, 1), 0, False), ((0, 1), 0, False),
                                    ((0,), 0, True), ((0,), 8, True), ((0,), FORTY, True)]:
            self.assertIs(is_passed(one, letter(seat, number)), truth, (seat, number))
            self.assertIs(passes_over(one, seat), False)

    def test_fence_and_cut(self):
        one = book((0,), 2, fences=(((1, 1), 3),), cuts=(((1,), 0),))
        for number in (0, 2, 3, 4):
            self.assertIs(is_passed(one, letter((1, 1), number)), True)

    def test_drawn_books(self):
        many = 0
        for one in RIGHT[:200] + [drawn_book(number) for number in range(200)]:
            for seat in SEATS:
                self.assertIs(passes_over(one, seat), is_over(one, seat))
                many += is_over(one, seat)
                for number in (0, 1, 2, 3):
                    told = is_over(one, seat) or seat == one[0] or number < dict(one[7]).get(seat, 0)
                    self.assertIs(is_passed(one, letter(seat, number)), told)
        self.assertGreater(many, 1000)


class Taking(unittest.TestCase):
    def taken(self, one, told, behind):
        kept = copy.deepcopy((one, told))
        for _ in range(2):
            self.assertEqual(take(one, told), behind)
        self.assertEqual((one, told), kept)
        self.assertEqual(take(behind, told), behind)
        self.assertEqual([type(behind), *[type(part) for part in behind[5:]]], [tuple] * 6)
        self.assertIs(right_book(one), True)
        self.assertIs(right_book(behind), True)

    def marked(self, ahead, told, behind, turn=7, brought=2):
        """Acks that the mark had, acks that are told, acks that the mark has behind it."""
        marks = () if ahead is None else ((A, ahead),)
        one = book((0,), 2, turn, 3, brought, (), marks)
        self.taken(one, letter((1,), 9, (), ((A, told),)), one[:6] + (((A, behind),),) + one[7:])

    def test_unknown_mark(self):
        self.marked(None, (((1,), 2, 0),), (((0,), 7, 2), ((1,), 2, 0)))
        self.marked(None, (((1,), 2, 1), ((1, 1), 0, 0)), (((0,), 7, 2), ((1,), 2, 1), ((1, 1), 0, 0)))

    def test_mark_of_a_held_dot(self):
        one = book((0,), 2, 4, 2, 0, ((A, THING), (B, (A, "b", 1))))
        behind = one[:5] + (((B, (A, "b", 1)),), ((A, (((0,), 4, 0), ((1,), 2, 0))),)) + one[7:]
        self.taken(one, letter((1,), 9, (), ((A, (((1,), 2, 0),)),)), behind)

    def test_mark_with_other_acks(self):
        own = ((0,), 3, 1)
        self.marked((own,), (((1,), 2, 0),), (own, ((1,), 2, 0)))
        self.marked((own, ((1,), 2, 0)), (((1,), 2, 0),), (own, ((1,), 2, 0)))
        self.marked((own, ((1,), 2, 1)), (((1,), 2, 0),), (own, ((1,), 2, 0)))
        self.marked((own, ((1,), 2, 0)), (((1,), 2, 1),), (own, ((1,), 2, 0)))
        self.marked((own, ((1,), 2, 0)), (((1,), 1, 5),), (own, ((1,), 1, 5)))
        self.marked((own, ((1,), 1, 5)), (((1,), 2, 0),), (own, ((1,), 1, 5)))
        self.marked((own, ((1, 1), 0, 0)), (((1,), 2, 1), ((1, 2), 0, 0)),
                    (own, ((1,), 2, 1), ((1, 1), 0, 0), ((1, 2), 0, 0)))

    def test_the_own_ack_goes_together_with_the_others(self):
        told = ((1,), 2, 0)
        for own in [((0,), 0, 0), ((0,), 3, 1), ((0,), 7, 0), ((0,), 7, 1), ((0,), 7, 2)]:
            self.marked((own,), (told,), (own, told))
            self.marked(None, (own, told), (own, told))
            for other in [((0,), 0, 2), ((0,), 3, 0), ((0,), 3, 2), ((0,), 7, 2)]:
                self.marked((own,), (other, told), (min(own, other), told))

    def test_lefts(self):
        one = book((0,), 3, 4, 0, 1, lefts=(((2,), 3, 0),))
        self.taken(one, letter(lefts=(((2,), 3, 0),)), one)
        self.taken(one, letter(lefts=(((0,), 4, 1),)), one)
        self.taken(one, letter(lefts=(((0, 1), 1, 0),)), one[:9] + ((((0, 1), 1, 0), ((2,), 3, 0)),))
        both = (((0, 1), 1, 0), ((2,), 3, 0), ((3,), 0, 0))
        four = one[:1] + (4,) + one[2:]
        self.taken(four, letter(lefts=(((0,), 4, 1), *both)), four[:9] + (both,))
        self.taken(four[:9] + ((),), letter(lefts=(*both[:1], *both[2:])), four[:9] + (both[:1] + both[2:],))

    def test_things(self):
        own = (((0,), 3, 0),)
        one = book((0,), 2, 4, 4, 1, ((A, THING), (C, OTHER)), ((B, own),))
        self.taken(one, letter(things=((A, THING),)), one)
        self.taken(one, letter(things=((B, THING),)), one)
        self.taken(one, letter(things=((((0,), 3), OTHER),)),
                   one[:5] + (((A, THING), (((0,), 3), OTHER), (C, OTHER)),) + one[6:])
        self.taken(one, letter(things=((A, THING), (B, THING), (((0, 1), 1), OTHER), (((1,), 2), (B, "c", 0)))),
                   one[:5] + (((A, THING), (((0, 1), 1), OTHER), (C, OTHER), (((1,), 2), (B, "c", 0))),) + one[6:])

    def test_a_thing_whose_mark_is_told_by_the_same_letter_stays_gone(self):
        """Marks go first; such a letter isn't right, but no order of its parts may bring the thing."""
        one = book((0,), 2, 4, 4, 0, ((A, THING),))
        told = letter(number=9, things=((A, THING), (B, THING)), marks=((A, (((1,), 1, 0),)),))
        self.assertEqual(take(one, told), one[:5] + (((B, THING),), ((A, (((0,), 4, 0), ((1,), 1, 0))),)) + one[7:])

    def test_marks_rise(self):
        own = (((0,), 1, 0),)
        one = book((0,), 2, 4, 4, 0, (), ((B, own),))
        acks = (((1,), 1, 0),)
        both = (((0,), 4, 0), *acks)
        self.taken(one, letter(number=9, marks=((A, acks), (C, acks))), one[:6] + (((A, both), (B, own), (C, both)),) + one[7:])

    def test_all_at_once(self):
        one = book((0, 1), 3, 5, 2, 1, ((((0, 1), 1), THING), (A, THING))[::-1], ((C, (((0, 1), 2, 1),)),),
                   (((0,), 3),), (((2,), 0),), ())
        told = letter((1,), 6, ((B, OTHER), (C, THING)), ((((0, 1), 1), (((1,), 4, 0),)),), (((0,), 8, 1), ((0, 1), 5, 1)))
        self.taken(one, told[:2] + (told[2][:1],) + told[3:],
                   one[:5] + (((A, THING), (B, OTHER)),
                              ((((0, 1), 1), (((0, 1), 5, 1), ((1,), 4, 0))), (C, (((0, 1), 2, 1),))),
                              one[7], one[8], (((0,), 8, 1),)))

    def test_one_that_is_passed_turns_nothing(self):
        one = book((0,), 3, 4, 4, 1, ((A, THING),), ((C, (((0,), 0, 0),)),), (((1,), 3),), (((2,), 0),))
        parts = (((B, OTHER),), ((A, (((0,), 2, 0), ((1,), 2, 0), ((2,), 2, 0), ((2, 1), 1, 0))),), (((0, 1), 3, 0),))
        for seat, number in [((0,), 3), ((0,), 9), ((1,), 2), ((2,), 5), ((2, 1), 5)]:
            self.taken(one, (seat, number, *parts), one)
        self.assertNotEqual(take(one, ((1,), 3, *parts)), one)

    def test_nothing_told(self):
        one = book((0,), 2, 4, 4, 0, ((A, THING),), ((C, (((0,), 0, 0),)),))
        self.taken(one, letter(), one)


class Orders(unittest.TestCase):
    def test_any_order_and_twice(self):
        """[30], of books and letters of drawn worlds."""
        turned = 0
        for number in range(120):
            draw = random.Random(number)
            world = walk(number)[-1][1]
            for one in books_in(world).values():
                letters = [draw.choice(world[2]) for _ in range(3)] if world[2] else []
                told = set()
                for order in itertools.permutations(letters + letters[:1]):
                    behind = one
                    for each in order:
                        behind = take(behind, each)
                    told.add(behind)
                self.assertEqual(len(told), 1)
                turned += told != {one}
                self.assertIs(right_book(behind), True)
                self.assertEqual(behind[:5] + behind[7:9], one[:5] + one[7:9])
        self.assertGreater(turned, 60)

    def test_told_both_ways(self):
        """[5], [26]: two that tell one another all, neither passing over the other, hold and mark the same."""
        many = 0
        for number in range(150):
            for name, world in walk(number)[::6]:
                for one, two in itertools.combinations(books_in(world).values(), 2):
                    if is_over(one, two[0]) or is_over(two, one[0]):
                        continue
                    one, first = tell_all(one)
                    two, second = tell_all(take(two, first))
                    one = take(one, second)
                    self.assertEqual(one[5], two[5])
                    self.assertEqual([dot for dot, acks in one[6]], [dot for dot, acks in two[6]])
                    many += bool(one[5] and one[6])
        self.assertGreater(many, 100)


if __name__ == "__main__":
    unittest.main()
