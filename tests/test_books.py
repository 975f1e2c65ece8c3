"""Books: [2], [3], [11], [12], [13]."""

import copy
import random
import unittest

from gonemarks.books import are_lefts, are_marks, are_things, first_book, is_book, known_seats, right_book
from gonemarks.errors import GoneError, NoBook
from tests.samples import FORTY, ODD, RIGHT, book, drawn_book, is_kin, known_by_kin, spoiled, told_seats

FIVE = (0, 1, 1, 1, 1)
A, B, C = ((0,), 1), ((0,), 2), ((1,), 1)
THING = ((), "a", 1)
WHOLE = book((0, 1), 2, 3, 2, 1, ((A, (C, "ab", -1)), (((0, 1), 1), THING)), ((C, (((0,), 0, 1), ((0, 1), 1, 1))),),
             (((0,), 1), ((1,), 2)), (((1,), 1),), (((1,), 4, 1),))


class Kinds(unittest.TestCase):
    def yes(self, asked, *things):
        for thing in things:
            self.assertIs(asked(thing), True, thing)
            self.assertIs(asked(thing), True, thing)

    def no(self, asked, *things):
        for thing in things:
            kept = copy.deepcopy(thing)
            self.assertIs(asked(thing), False, thing)
            self.assertEqual(repr(thing), repr(kept))

    def test_things(self):
        self.yes(are_things, (), ((A, THING),), ((A, THING), (B, THING), (((0, 1), 1), THING), (C, (A, "b", -999))))
        self.no(are_things, ((B, THING), (A, THING)), ((A, THING), (A, THING)), ((A, THING), (A, ((), "b", 1))))
        self.no(are_things, ((C, THING), (((0, 1), 1), THING)), ((A,),), ((A, THING, 1),), ((THING, A),), (A, THING))
        self.no(are_things, ((A, ((), "a", 1000)),), (((A[0], 0), THING),), ((A, ()),), (((), THING),), ((A, A),))
        self.no(are_things, *spoiled(((A, THING), (B, (C, "ab", 1)))))

    def test_marks(self):
        acks = (((0,), 0, 0), ((0, 1), FORTY, 99), ((1,), 5, 2))
        self.yes(are_marks, (), ((A, ()),), ((A, acks),), ((A, acks), (B, ()), (C, acks[:1])))
        self.no(are_marks, ((B, acks), (A, acks)), ((A, acks), (A, acks)), ((A, ()), (A, acks)), ((A,),), ((A, acks, ()),))
        self.no(are_marks, ((A, acks[::-1]),), ((A, (acks[0], acks[0])),), ((A, (acks[0], ((0,), 1, 0))),))
        self.no(are_marks, ((A, (acks[0], acks[2], acks[1])),), ((A, acks[0]),), (A, acks), ((acks, A),))
        self.no(are_marks, *spoiled(((A, acks), (B, ()))))

    def test_acks(self):
        for ack in [((0,), 0, 0), ((0,), 0, 99), ((0, 1, 1, 1), FORTY, 99), (FIVE, 0, 0)]:
            self.yes(are_marks, ((A, (ack,)),))
        bad = [((0,), -1, 0), ((0,), 0, -1), ((0,), 0, 100), (FIVE, 0, 1), ((4,), 0, 0), ((0,), 0), ((0,), 0, 0, 0), ()]
        for ack in bad:
            self.no(are_marks, ((A, (ack,)),))

    def test_lefts(self):
        self.yes(are_lefts, (), (((0,), 0, 0),), (((0,), FORTY, 99), ((0, 1), 0, 0), ((1,), 0, 99)), ((FIVE, 3, 0),))
        self.no(are_lefts, (((1,), 0, 0), ((0,), 0, 0)), (((0,), 0, 0), ((0,), 1, 0)), (((0,), 0, 0), ((0,), 0, 0)))
        self.no(are_lefts, (((0,), -1, 0),), (((0,), 0, -1),), (((0,), 0, 100),), ((FIVE, 0, 1),), (((0,), 0),))
        self.no(are_lefts, (((0,), 0, 0, 0),), ((0,), 0, 0), (((), 0, 0),))
        self.no(are_lefts, *spoiled((((0, 1), 1, 1), ((1,), 0, 0))))

    def test_odd_ones(self):
        for asked in (are_things, are_marks, are_lefts):
            self.no(asked, *[thing for thing in ODD if repr(thing) != "()"])
        self.no(is_book, *ODD)

    def test_books(self):
        self.yes(is_book, WHOLE, book(), first_book((3, 99), 4), *[drawn_book(number) for number in range(100)])
        self.no(is_book, *spoiled(WHOLE))
        self.no(is_book, WHOLE[:9], WHOLE + ((),), WHOLE[1:], ())

    def test_books_numbers(self):
        for roots, fits in [(0, False), (1, True), (4, True), (5, False), (-1, False), (FORTY, False)]:
            self.assertIs(is_book(book(roots=roots)), fits)
        for number, fits in [(-1, False), (0, True), (1, True), (FORTY, True), (-FORTY, False)]:
            self.assertIs(is_book(book(turn=number)), fits)
            self.assertIs(is_book(book(made=number)), fits)
        for m, fits in [(-1, False), (0, True), (1, True), (99, True), (100, False)]:
            self.assertIs(is_book(book(brought=m)), fits)
            self.assertIs(is_book(book((0, 1, 1, 1), brought=m)), fits)
            self.assertIs(is_book(book(cuts=(((1,), m),))), fits)
            self.assertIs(is_book(book(lefts=(((1,), 0, m),))), fits)
            self.assertIs(is_book(book(marks=((A, (((1,), 0, m),)),))), fits)
        for m, fits in [(0, True), (1, False)]:
            self.assertIs(is_book(book(FIVE, brought=m)), fits)
            self.assertIs(is_book(book(cuts=((FIVE, m),))), fits)
            self.assertIs(is_book(book(lefts=((FIVE, 0, m),))), fits)
            self.assertIs(is_book(book(marks=((A, ((FIVE, 0, m),)),))), fits)
        for f, fits in [(-1, False), (0, False), (1, True), (FORTY, True)]:
            self.assertIs(is_book(book(fences=(((1,), f),))), fits)
        for b, fits in [(-1, False), (0, True), (FORTY, True)]:
            self.assertIs(is_book(book(lefts=(((1,), b, 0),))), fits)
            self.assertIs(is_book(book(marks=((A, (((1,), b, 0),)),))), fits)

    def test_parts_of_books_void_one_row_not_rising_twice(self):
        rows = {"things": [(A, THING), (B, THING)], "marks": [(A, ()), (B, ())], "fences": [((0,), 2), ((1,), 1)],
                "cuts": [((0,), 2), ((1,), 1)], "lefts": [((0,), 2, 0), ((1,), 1, 0)]}
        for part, (one, two) in rows.items():
            for told in [(), (one,), (two,), (one, two)]:
                self.yes(is_book, book(**{part: told}))
            for told in [(two, one), (one, one), (one, two, two), [one], one, (one + (0,),), (one[:1],), None]:
                self.no(is_book, book(**{part: told}))
        self.no(is_book, book(fences=(((0,), 1), ((0,), 2))), book(cuts=(((0,), 1), ((0,), 2))))

    def test_first_book(self):
        self.assertEqual(first_book((0,), 1), ((0,), 1, 0, 0, 0, (), (), (), (), ()))
        self.assertEqual(first_book((3, 2), 4), ((3, 2), 4, 0, 0, 0, (), (), (), (), ()))
        self.assertIs(type(first_book((0,), 1)), tuple)
        for root in range(3):
            self.assertIs(right_book(first_book((root,), 3)), True)


class Known(unittest.TestCase):
    def test_own_seat_roots_stems_elders(self):
        self.assertEqual(known_seats(book((0,), 1)), ((0,),))
        self.assertEqual(known_seats(book((1,), 4)), ((0,), (1,), (2,), (3,)))
        own = ((0,), (0, 1), (0, 2), (0, 3), (0, 3, 1), (0, 3, 2), (1,))
        self.assertEqual(known_seats(book((0, 3, 2), 2)), own)
        self.assertIs(type(known_seats(book())), tuple)

    def test_each_part_alone(self):
        two = ((0,), (1,), (1, 1), (1, 2))
        dot = ((1, 2), 7)
        self.assertEqual(known_seats(book(things=((dot, THING),))), two)
        self.assertEqual(known_seats(book(things=((A, (dot, "a", 1)),))), two)
        self.assertEqual(known_seats(book(marks=((dot, ()),))), two)
        self.assertEqual(known_seats(book(marks=((A, (((1, 2), 0, 0),)),))), two)
        self.assertEqual(known_seats(book(fences=(((1, 2), 1),))), two)
        self.assertEqual(known_seats(book(cuts=(((1, 2), 0),))), two)
        self.assertEqual(known_seats(book(lefts=(((1, 2), 0, 0),))), two)

    def test_told_children(self):
        two = ((0,), (1,), (1, 1), (1, 2))
        self.assertEqual(known_seats(book(marks=((A, (((1,), 0, 2),)),))), two)
        self.assertEqual(known_seats(book(cuts=(((1,), 2),))), two)
        self.assertEqual(known_seats(book(lefts=(((1,), 0, 2),))), two)
        self.assertEqual(known_seats(book((1,), brought=2)), two)
        self.assertEqual(known_seats(book(fences=(((1,), 2),))), two[:2])
        self.assertEqual(known_seats(book(lefts=(((1,), 2, 0),), marks=((A, (((1,), 2, 0),)),))), two[:2])

    def test_elder_children_of_stems_too(self):
        told = known_seats(book(roots=1, cuts=(((0, 2, 1), 2),)))
        self.assertEqual(told, ((0,), (0, 1), (0, 2), (0, 2, 1), (0, 2, 1, 1), (0, 2, 1, 2)))

    def test_a_younger_one_behind_an_elder_one(self):
        told = known_seats(book(roots=1, fences=(((0, 1), 1), ((0, 1, 2), 1), ((0, 3), 1))))
        self.assertEqual(told, ((0,), (0, 1), (0, 1, 1), (0, 1, 2), (0, 2), (0, 3)))

    def test_other_roots_are_known_without_elder_ones(self):
        self.assertEqual(known_seats(book(roots=1, fences=(((3, 1), 1),))), ((0,), (3,), (3, 1)))

    def test_many(self):
        told = known_seats(book((0, 99, 99, 99, 99), 1))
        self.assertEqual(len(told), 1 + 4 * 99)
        self.assertEqual(told[-1], (0, 99, 99, 99, 99))

    def test_drawn_books(self):
        for one in [drawn_book(number) for number in range(300)] + [WHOLE]:
            kept = copy.deepcopy(one)
            self.assertEqual(known_seats(one), known_by_kin(one))
            self.assertEqual(known_seats(one), known_seats(one))
            self.assertEqual(one, kept)


def amiss(one):
    """[12] of a BOOK by another way: all that is amiss, as told first goes first."""
    seat, roots, turn, made, brought, things, marks, fences, cuts, lefts = one
    named = told_seats(one)
    known = known_by_kin(one)
    found = [("root", n) for n, y in enumerate(known) if y[0] >= roots]
    found += [("twice", n) for n, row in enumerate(things) if row[0] in dict(marks)]
    dots = [[dot, thing[0]] for dot, thing in things] + [[dot] for dot, acks in marks]
    found += [("dot", n) for n, some in enumerate(dots) if any(dot and dot[0] == seat and dot[1] > made for dot in some)]
    for n, (dot, acks) in enumerate(marks):
        own = {y: (a, m) for y, a, m in acks}.get(seat)
        if own is None or own[0] > turn or own[1] > brought:
            found.append(("ack", n))
    found += [("own", n) for n, part in enumerate([fences, cuts, lefts]) if any(row[0] == seat for row in part)]
    found += [("passed", n) for n, (y, m) in enumerate(cuts)
              if any(seat[:len(y) + 1] == y + (i,) for i in range(m + 1, 100))]
    found += [("child", i) for i in range(brought + 1, 100) if any(is_kin(seat + (i,), other) for other in named)]
    for n, (y, b, m) in enumerate(lefts):
        acks = [ack for dot, acks in marks for ack in acks if ack[0] == y]
        wrong = [a > b or its > m for y, a, its in acks]
        wrong += [f > b for z, f in fences if z == y] + [its > m for z, its in cuts if z == y]
        wrong += [any(is_kin(y + (i,), other) for other in named) for i in range(m + 1, 100)]
        if any(wrong):
            found.append(("left", n))
    return found


def changed(draw, one):
    """A BOOK that differs from a right one in one part."""
    seat, roots, turn, made, brought, things, marks, fences, cuts, lefts = one
    way = draw.randrange(10)
    if way == 0:
        return one[:1] + (draw.randint(1, 3),) + one[2:]
    if way == 1:
        return one[:2] + (draw.randint(0, 4),) + one[3:]
    if way == 2:
        return one[:3] + (draw.randint(0, 2),) + one[4:]
    if way == 3:
        return one[:4] + (draw.randint(0, 2),) + one[5:]
    if way == 4 and marks:
        dot = draw.choice(marks)[0]
        return one[:5] + (tuple(sorted([row for row in things if row[0] != dot] + [(dot, THING)])),) + one[6:]
    if way == 5:
        return one[:6] + (tuple((dot, tuple(ack for ack in acks if draw.random() < 0.8)) for dot, acks in marks),) + one[7:]
    if way == 6:
        at = draw.choice([7, 8, 9])
        row = (seat, draw.randint(1, 2)) + ((1,) if at == 9 else ())
        return one[:at] + (tuple(sorted([other for other in one[at] if other[0] != seat] + [row])),) + one[at + 1:]
    if way == 7:
        return with_cut(draw, one)
    if way == 8:
        return one[:9] + (tuple((y, draw.randint(0, b), draw.randint(0, m)) for y, b, m in lefts),)
    within = (draw.choice([seat, (2, 2), (0, 3)]), draw.randint(1, 9))
    return one[:5] + (tuple((dot, (within, "b", 2)) for dot, thing in things),) + one[6:]


def with_cut(draw, one):
    rows = {y: m for y, m in one[8]}
    rows[draw.choice([one[0][:1], (1,), (0, 2)])] = draw.randint(0, 1)
    return one[:8] + (tuple(sorted(rows.items())),) + one[9:]


class Right(unittest.TestCase):
    def right(self, one):
        kept = copy.deepcopy(one)
        self.assertIs(right_book(one), True)
        self.assertIs(right_book(one), True)
        self.assertEqual(one, kept)

    def refused(self, word, place, one):
        kept = copy.deepcopy(one)
        for _ in range(2):
            with self.assertRaises(NoBook) as caught:
                right_book(one)
            told = caught.exception
            self.assertEqual((told.word, told.place), (word, place))
            self.assertIs(type(told.place), int)
            self.assertEqual((type(told), type(told).__bases__), (NoBook, (GoneError,)))
        self.assertEqual(repr(one), repr(kept))

    def test_right_ones(self):
        self.right(WHOLE)
        for one in RIGHT:
            self.assertEqual(amiss(one), [])
            self.right(one)

    def test_kind(self):
        for thing in [*ODD, *spoiled(WHOLE), WHOLE[:9], list(WHOLE), book(roots=5), book(turn=-1)]:
            self.refused("kind", 0, thing)

    def test_root(self):
        self.right(book(roots=2, fences=(((1,), 1),)))
        self.refused("root", 1, book(roots=1, fences=(((1,), 1),)))
        self.refused("root", 2, book(roots=2, fences=(((2,), 1),)))
        self.refused("root", 2, book((0, 1), roots=1, cuts=(((2, 2), 0),)))
        self.refused("root", 1, book((1,), roots=1))
        self.refused("root", 3, book(roots=2, brought=1, things=((A, (((3,), 1), "a", 0)),)))
        self.refused("root", 2, book(roots=2, lefts=(((2,), 0, 0), ((3,), 0, 0))))

    def test_twice(self):
        acks = (((0,), 0, 0),)
        self.refused("twice", 0, book(made=2, things=((A, THING), (B, THING)), marks=((A, acks), (B, acks))))
        self.refused("twice", 1, book(made=2, things=((A, THING), (B, THING)), marks=((B, acks),)))
        self.right(book(made=2, things=((A, THING),), marks=((B, acks),)))

    def test_dot(self):
        acks = (((0,), 0, 0),)
        self.right(book(made=2, things=((A, (B, "a", 1)),), marks=((B, acks),)))
        self.refused("dot", 0, book(made=0, things=((A, THING),)))
        self.refused("dot", 1, book(made=1, things=((A, THING), (B, THING))))
        self.refused("dot", 0, book(made=1, things=((A, (B, "a", 1)),)))
        self.refused("dot", 1, book(made=0, things=((C, THING), (((1,), 2), (A, "a", 1)))))
        self.refused("dot", 0, book(made=0, marks=((A, acks),)))
        self.refused("dot", 2, book(made=1, things=((A, THING), (C, THING)), marks=((B, acks), (((0,), 3), acks))))
        self.refused("dot", 1, book(made=1, marks=((A, acks), (B, acks))))
        self.refused("dot", 0, book(made=1, things=((A, (B, "a", 1)),), marks=((((0,), 3), acks),)))
        self.right(book(made=0, things=((C, (((1,), FORTY), "a", 1)),)))
        self.right(book((0,), brought=1, made=0, things=((((0, 1), 5), THING),)))

    def test_withins_may_be_unheld_and_go_round(self):
        self.right(book(made=2, things=((A, (B, "a", 1)), (B, (A, "a", 1)), (C, (C, "a", 1)))))
        self.right(book(made=0, things=((C, (((1,), 9), "a", 1)),)))

    def test_ack(self):
        self.right(book(turn=2, made=1, brought=1, marks=((A, (((0,), 2, 1),)),)))
        self.refused("ack", 0, book(turn=2, made=1, marks=((A, ()),)))
        self.refused("ack", 0, book(turn=2, made=1, marks=((A, (((1,), 0, 0),)),)))
        self.refused("ack", 0, book(turn=2, made=1, marks=((A, (((0,), 3, 0),)),)))
        self.refused("ack", 0, book(turn=2, made=1, brought=1, marks=((A, (((0,), 2, 2),)),)))
        self.refused("ack", 1, book(turn=2, made=2, marks=((A, (((0,), 2, 0),)), (B, (((0,), 3, 0),)))))
        self.refused("ack", 1, book(turn=2, made=2, marks=((A, (((0,), 2, 0),)), (B, ()), (C, ()))))
        self.right(book(turn=0, made=1, marks=((A, (((0,), 0, 0), ((1,), 9, 9))),)))

    def test_own(self):
        row = ((0,), 1)
        self.refused("own", 0, book(fences=(row,)))
        self.refused("own", 1, book(brought=1, cuts=(row,)))
        self.refused("own", 2, book(lefts=(((0,), 0, 0),)))
        self.refused("own", 0, book(brought=1, fences=(((0,), 1),), cuts=(row,), lefts=(((0,), 0, 0),)))
        self.refused("own", 1, book(brought=1, cuts=(row,), lefts=(((0,), 0, 0), ((1,), 0, 0))))
        self.right(book(fences=(((1,), 1),), cuts=(((1,), 0),), lefts=(((1,), 1, 0),)))

    def test_passed(self):
        self.right(book((0, 2), cuts=(((0,), 2),)))
        self.refused("passed", 0, book((0, 2), cuts=(((0,), 1),)))
        self.refused("passed", 0, book((0, 2, 1), cuts=(((0,), 1),)))
        self.right(book((0, 2, 1), cuts=(((0,), 2), ((0, 2), 1))))
        self.refused("passed", 1, book((0, 2, 1), cuts=(((0,), 2), ((0, 2), 0))))
        self.refused("passed", 0, book((0, 2, 1), cuts=(((0,), 0), ((0, 2), 0))))
        self.refused("passed", 2, book((1, 2), roots=2, cuts=(((0,), 0), ((0, 1), 0), ((1,), 0))))
        self.right(book((0, 2), cuts=(((0, 1), 0), ((0, 2, 1), 0), ((1,), 0)), brought=1))

    def test_child(self):
        self.right(book(brought=2, fences=(((0, 2), 1),)))
        self.refused("child", 2, book(brought=1, fences=(((0, 2), 1),)))
        self.refused("child", 1, book(brought=0, fences=(((0, 2), 1),)))
        self.refused("child", 1, book(brought=0, things=((((0, 3, 1), 1), THING),)))
        self.refused("child", 3, book((0, 1), brought=2, cuts=(((0, 1, 3, 1), 0), ((0, 1, 5), 0))))

    def test_left(self):
        one = dict(turn=2, made=1)
        own = ((0,), 0, 0)
        self.right(book(**one, marks=((A, (own, ((1,), 4, 1))),), fences=(((1,), 4),), cuts=(((1,), 1),),
                        lefts=(((1,), 4, 1),)))
        self.refused("left", 0, book(**one, marks=((A, (own, ((1,), 4, 0))),), lefts=(((1,), 3, 0),)))
        self.refused("left", 0, book(**one, marks=((A, (own, ((1,), 3, 1))),), lefts=(((1,), 3, 0),)))
        self.refused("left", 0, book(fences=(((1,), 4),), lefts=(((1,), 3, 0),)))
        self.refused("left", 0, book(cuts=(((1,), 2),), lefts=(((1,), 3, 1),)))
        self.refused("left", 0, book(fences=(((1, 2), 1),), lefts=(((1,), 3, 1),)))
        self.refused("left", 0, book(fences=(((1, 2, 1), 1),), lefts=(((1,), 3, 1),)))
        self.refused("left", 1, book(fences=(((1, 2, 1), 1),), lefts=(((1,), 3, 2), ((1, 2), 3, 0))))
        self.refused("left", 1, book(roots=3, fences=(((2,), 4),), lefts=(((1,), 0, 0), ((2,), 3, 0))))
        self.refused("left", 0, book(roots=3, fences=(((1,), 1), ((2,), 4)), lefts=(((1,), 0, 0), ((2,), 3, 0))))
        self.refused("left", 0, book(**one, marks=((A, (own, ((1,), 1, 0))), (C, (own, ((1,), 5, 0)))),
                                     lefts=(((1,), 4, 0),)))
        self.refused("left", 0, book((1, 1), lefts=(((1,), 4, 0),)))
        self.right(book((1, 1), lefts=(((1,), 4, 1),)))

    def test_words_told_first_go(self):
        """Each book has two things amiss: taking one after the other away tells the next word."""
        acks = (((0,), 9, 9),)
        one = [(0,), 1, 0, 0, 0, ((A, THING),), ((A, acks),), (((0,), 1),), (((1,), 0),), (((1,), 0, 0), ((2,), 0, 0))]
        self.refused("root", 10, tuple(one))
        one[1] = 3
        self.refused("twice", 0, tuple(one))
        one[5] = ()
        self.refused("dot", 0, tuple(one))
        one[3] = 1
        self.refused("ack", 0, tuple(one))
        one[6] = ((A, (((0,), 0, 0),)),)
        one[7] = (((0,), 1), ((0, 1), 1), ((2,), 1))
        self.refused("own", 0, tuple(one))
        one[7] = one[7][1:]
        self.refused("child", 1, tuple(one))
        one[4] = 1
        self.refused("left", 1, tuple(one))
        one[9] = (((1,), 0, 0), ((2,), 1, 0))
        self.right(tuple(one))
        passed = book((0, 2), cuts=(((0,), 1),), fences=(((0, 2, 1), 1),), lefts=(((0,), 0, 0),))
        self.refused("passed", 0, passed)
        self.refused("own", 0, passed[:7] + ((((0, 2), 1),),) + passed[8:])
        self.refused("child", 1, passed[:8] + ((),) + passed[9:])

    def test_changed_books_by_another_way(self):
        draw = random.Random(5)
        told = set()
        for one in RIGHT * 4:
            for _ in range(draw.randint(1, 3)):
                one = changed(draw, one)
            self.assertTrue(is_book(one))
            wrong = amiss(one)
            if wrong:
                self.refused(*wrong[0], one)
                told.add(wrong[0][0])
            else:
                self.right(one)
        self.assertEqual(told, {"root", "twice", "dot", "ack", "own", "passed", "child", "left"})


if __name__ == "__main__":
    unittest.main()
