"""The small checker of worlds: [58]."""

import copy
import itertools
import unittest

from gonemarks import errors
from gonemarks.errors import GoneError, NoWorld
from gonemarks.worldchecker import lets_world
from gonemarks.worlds import first_world, is_world
from tests.samples import FORTY, ODD, RIGHT, book, spoiled
from tests.walks import books_in, lonely, spoiled_worlds, verdict_by_words, walk

A, B, C = ((0,), 1), ((0,), 2), ((1,), 1)
THING, OTHER = ((), "a", 1), ((), "b", 2)
WORDS = ("shape", "seats", "page", "named", "thing", "fence", "cut", "left", "ack", "own")

ROOT = book((0,), 3, 3, 2, 1, ((A, THING), (C, (A, "c", 3))), ((B, (((0,), 1, 0), ((0, 1), 0, 0), ((1,), 2, 0))),),
            (((1,), 1),), (), (((2,), 1, 0),))
CHILD = book((0, 1), 3, 1, 0, 0, ((A, THING),), ((B, (((0,), 1, 0), ((0, 1), 0, 0))),), (((0,), 2),), (((2,), 0),))
NEXT = book((1,), 3, 3, 1, 0, ((A, THING), (C, (A, "c", 3))), ((B, (((0,), 1, 0), ((1,), 2, 0))),))
LETTERS = (((0,), 0, ((A, THING), (B, OTHER)), (), ()),
           ((0,), 1, (), ((B, (((0,), 1, 0),)),), ()),
           ((0, 1), 0, ((A, THING),), ((B, (((0,), 1, 0), ((0, 1), 0, 0))),), ()),
           ((1,), 1, ((B, OTHER), (C, (A, "c", 3))), (), ()),
           ((1,), 2, ((C, (A, "c", 3)),), ((B, (((0,), 1, 0), ((1,), 2, 0))),), (((2,), 1, 0),)),
           ((2,), 0, ((A, THING),), (), ()))
WORLD = (3, (((0,), ROOT), ((0, 1), CHILD), ((1,), NEXT), ((2,), (1, 0, 0))), LETTERS)


def changed(world, place, part):
    """The world with another part at a place, given by the numbers that lead to it."""
    if not place:
        return part
    k = place[0]
    return world[:k] + (changed(world[k], place[1:], part),) + world[k + 1:]


def of_book(k, part):
    """The place of a part in the book of the k-th seat."""
    return (1, k, 1, part)


class Checker(unittest.TestCase):
    def lets(self, world):
        kept = copy.deepcopy(world)
        for _ in range(2):
            self.assertIs(lets_world(world), True)
        self.assertEqual(repr(world), repr(kept))
        self.assertIs(verdict_by_words(world), True)

    def refused(self, word, place, world):
        kept = copy.deepcopy(world)
        for _ in range(2):
            with self.assertRaises(NoWorld) as caught:
                lets_world(world)
            self.assertEqual((caught.exception.word, caught.exception.place), (word, place))
            self.assertIs(type(caught.exception), NoWorld)
            self.assertIs(type(caught.exception.place), int)
        self.assertEqual(repr(world), repr(kept))
        self.assertEqual(verdict_by_words(world), (word, place))

    def amiss(self, word, page, place, part):
        """WORLD with this part at this place is refused so."""
        self.refused(word, page, changed(WORLD, place, part))

    def so(self, place, part):
        self.lets(changed(WORLD, place, part))

    def test_error(self):
        self.assertEqual(NoWorld.__bases__, (GoneError,))
        for name, other in vars(errors).items():
            if isinstance(other, type) and other not in (NoWorld, GoneError):
                self.assertFalse(issubclass(NoWorld, other) or issubclass(other, NoWorld))

    def test_right_worlds(self):
        self.lets(WORLD)
        for roots in (1, 2, 3, 4):
            self.lets(first_world(roots))
        self.lets((1, (((0,), (0, 0, 0)),), ()))
        self.lets((2, (((0,), (FORTY, FORTY, 1)), ((0, 1), (0, 0, 0)), ((1,), book((1,), 2, FORTY, 60))), ()))

    def test_shape(self):
        for thing in [*ODD, *spoiled(first_world(2)), *spoiled(WORLD[1][1]), ROOT, LETTERS, list(WORLD), WORLD[:2]]:
            self.refused("shape", -1, thing)
        for world in [changed(WORLD, (0,), 0), changed(WORLD, (0,), 5), changed(WORLD, (1,), WORLD[1][::-1]),
                      changed(WORLD, (2,), LETTERS[::-1]), changed(WORLD, (1, 3, 1), (1, 0, -1)),
                      changed(WORLD, (1, 3, 1), (1, 0, 100)), changed(WORLD, (1, 3, 1), (True, 0, 0)),
                      changed(WORLD, (1,), WORLD[1] + WORLD[1][3:]), changed(WORLD, (2,), LETTERS + LETTERS[5:])]:
            self.refused("shape", -1, world)
        self.refused("shape", -1, (1, (((0,), book((0,), 1, True)),), ()))
        deep = ()
        for _ in range(38):
            deep = (deep,)
        for thing in [deep, [deep], (1, deep, ()), (1, (deep,), deep), [0] * 15000, "world 1", (1, (), ((),) * 9000)]:
            self.refused("shape", -1, thing)

    def test_seats(self):
        off = (0, 0, 0)
        for seats in [(), (((1,), off),), (((0,), off), ((0, 1), off)), (((0,), off), ((1,), off)), (((0,), (0, 0, 1)),),
                      (((0,), (0, 0, 1)), ((0, 2), off)), (((0,), (0, 0, 2)), ((0, 2), off)),
                      (((0,), (0, 0, 1)), ((0, 1), off), ((0, 2), off)), (((0,), (0, 0, 1)), ((0, 1), (0, 0, 1))),
                      (((0,), (0, 0, 1)), ((0, 1), off), ((0, 1, 1), off)), (((0, 1), off),), (((0,), book((0,), 1, brought=1)),)]:
            self.refused("seats", -1, (1, seats, ()))
        self.lets((1, (((0,), (0, 0, 2)), ((0, 1), (0, 0, 1)), ((0, 1, 1), off), ((0, 2), off)), ()))
        self.refused("seats", -1, (2, (((0,), off),), ()))
        self.refused("seats", -1, (4, (((0,), off), ((1,), off), ((3,), off)), ()))
        self.amiss("seats", -1, (0,), 4)
        self.amiss("seats", -1, (0,), 2)
        self.amiss("seats", -1, (1,), WORLD[1][:1] + WORLD[1][2:])
        self.amiss("seats", -1, of_book(0, 4), 2)
        self.amiss("seats", -1, of_book(0, 4), 0)
        self.amiss("seats", -1, of_book(2, 4), 1)
        self.amiss("seats", -1, (1, 3, 1), (1, 0, 1))

    def test_seats_of_five_numbers(self):
        seats = [((0, 1, 1, 1, 1)[:size], (0, 0, 1 if size < 5 else 0)) for size in range(1, 6)]
        self.lets((1, tuple(seats), ()))
        deep = ((0, 1, 1, 1, 1), book((0,), 1, brought=1))
        self.refused("seats", -1, (1, (*seats[:4], deep), ()))

    def test_page_of_a_book(self):
        for k in (0, 1, 2):
            self.amiss("page", k, of_book(k, 1), 4)
            self.amiss("page", k, of_book(k, 6), ((B, ()),))
            self.amiss("page", k, of_book(k, 5), ((A, THING), (B, OTHER)))
            self.amiss("page", k, of_book(k, 7), ((WORLD[1][k][0], 1),))
        self.amiss("page", 0, of_book(0, 3), 1)
        self.amiss("page", 1, of_book(1, 8), (((0,), 0),))
        self.amiss("page", 2, (1, 2, 1), changed(NEXT, (0,), (2,)))
        self.amiss("page", 0, (1, 0, 1), changed(NEXT, (4,), 1))
        self.amiss("page", 1, of_book(1, 1), 2)
        two = first_world(2)
        self.refused("page", 1, (2, (two[1][0], ((1,), first_world(3)[1][1][1])), ()))
        self.refused("page", 0, (2, (((0,), two[1][1][1]), ((1,), two[1][0][1])), ()))
        self.refused("page", 0, (2, (((0,), (0, 0, 0)), ((1,), two[1][0][1])), ()))

    def test_page_of_a_letter(self):
        self.amiss("page", 3, (2, 0, 3), ((B, (((0,), 0, 0),)),))
        self.amiss("page", 4, (2, 1, 3), ((B, (((0,), 2, 0),)),))
        self.amiss("page", 5, (2, 2, 4), (((0, 1), 1, 0),))
        self.amiss("page", 7, (2, 4, 1), 3)
        self.amiss("page", 8, (2, 5, 1), 1)
        self.amiss("page", 8, (2, 5, 1), FORTY)
        self.amiss("page", 5, (2, 2, 1), 1)
        self.amiss("page", 5, (2, 2), ((0, 1, 1), 0, (), (), ()))
        self.amiss("page", 8, (2, 5), ((2, 1), 0, (), (), ()))
        self.amiss("page", 8, (2, 5), ((3,), 0, (), (), ()))
        self.refused("page", 0, (1, (((0,), (0, 0, 0)),), (((0,), 0, (), (), ()),)))
        self.lets((1, (((0,), (1, 0, 0)),), (((0,), 0, (), (), ()),)))

    def test_named_in_books(self):
        for k in (0, 1, 2):
            own = WORLD[1][k][0]
            far = (1, 1) if k < 2 else (0, 2)
            marks = WORLD[1][k][1][6]
            self.amiss("named", k, of_book(k, 5), ((A, (((2,), 1), "a", 1)),))
            self.amiss("named", k, of_book(k, 5), ((A, THING), ((far, 1), THING)))
            self.amiss("named", k, of_book(k, 5), ((A, THING), (((2,), 1), THING)))
            self.amiss("named", k, of_book(k, 6), (*marks, (((2,), 1), ((own, 0, 0),))))
            self.amiss("named", k, of_book(k, 6), (*marks, ((far, 1), ((own, 0, 0),))))
            self.amiss("named", k, of_book(k, 6), ((B, tuple(sorted([*marks[0][1], (far, 0, 0)]))),))
            self.amiss("named", k, of_book(k, 7), ((far, 1),))
            self.amiss("named", k, of_book(k, 8), ((far, 0),))
            self.amiss("named", k, of_book(k, 9), ((far, 1, 0),))
        self.amiss("named", 1, of_book(1, 5), ((A, THING), (((0,), 3), THING)))
        self.amiss("named", 1, of_book(1, 5), ((A, (((0,), 3), "a", 1)),))
        self.amiss("named", 2, of_book(2, 8), (((0, 2), 0),))
        self.amiss("named", 0, of_book(0, 7), (((0, 1, 1), 1),))

    def test_named_in_letters(self):
        self.amiss("named", 4, (2, 1, 2), ((((0,), 3), THING),))
        self.amiss("named", 8, (2, 5, 2), ((A, (((1,), 2), "a", 1)),))
        self.amiss("named", 8, (2, 5, 2), ((A, (((2, 1), 1), "a", 1)),))
        self.amiss("named", 6, (2, 3, 3), ((((1,), 2), (((1,), 0, 0),)),))
        self.amiss("named", 7, (2, 4, 3), ((B, (((0, 2), 1, 0), ((1,), 2, 0))),))
        self.amiss("named", 3, (2, 0, 4), (((0, 1, 1), 1, 0),))
        self.amiss("named", 8, (2, 5, 3), ((((0, 1), 1), (((2,), 0, 0),)),))

    def test_children_told_by_a_number_do_not_stand_there(self):
        self.amiss("cut", 0, of_book(0, 8), (((0, 1), 5),))
        self.amiss("ack", 0, of_book(0, 6), ((B, (((0,), 1, 0), ((0, 1), 0, 3), ((1,), 2, 0))),))
        self.amiss("left", 2, of_book(2, 9), (((2,), 1, 9),))

    def test_thing(self):
        self.amiss("thing", 1, of_book(1, 5), ((A, OTHER),))
        self.amiss("thing", 2, of_book(2, 5), ((A, ((), "a", 2)), (C, (A, "c", 3))))
        self.amiss("thing", 2, of_book(2, 5), ((A, THING), (C, ((), "c", 3))))
        self.amiss("thing", 3, (2, 0, 2), ((A, OTHER), (B, OTHER)))
        self.amiss("thing", 6, (2, 0, 2), ((A, THING), (B, THING)))
        self.amiss("thing", 6, (2, 3, 2), ((B, OTHER), (C, (B, "c", 3))))
        self.amiss("thing", 8, (2, 5, 2), ((A, ((), "b", 1)),))
        self.amiss("thing", 1, of_book(0, 5), ((A, OTHER), (C, (A, "c", 3))))

    def test_fence(self):
        self.so(of_book(0, 7), (((0, 1), 1), ((1,), 3), ((2,), 1)))
        self.amiss("fence", 0, of_book(0, 7), (((1,), 4),))
        self.amiss("fence", 0, of_book(0, 7), (((0, 1), 2), ((1,), 1)))
        self.amiss("fence", 1, of_book(1, 7), (((0,), 2), ((2,), 2)))
        self.amiss("fence", 2, of_book(2, 7), (((0,), FORTY),))

    def test_cut(self):
        self.so(of_book(2, 8), (((0,), 1), ((0, 1), 0), ((2,), 0)))
        self.amiss("cut", 0, of_book(0, 8), (((1,), 1),))
        self.amiss("cut", 1, of_book(1, 8), (((0,), 1), ((2,), 1)))
        self.amiss("cut", 2, of_book(2, 8), (((0,), 2),))

    def test_left(self):
        self.so(of_book(2, 9), (((2,), 1, 0),))
        self.amiss("left", 0, of_book(0, 9), (((2,), 2, 0),))
        self.amiss("left", 0, of_book(0, 9), (((2,), 0, 0),))
        self.amiss("left", 1, of_book(1, 9), (((0,), 3, 1),))
        self.amiss("left", 2, of_book(2, 9), (((0, 1), 1, 0), ((2,), 1, 0)))
        self.amiss("left", 2, of_book(2, 9), (((2,), 1, 1),))
        self.amiss("left", 7, (2, 4, 4), (((2,), 2, 0),))
        self.amiss("left", 3, (2, 0, 4), (((1,), 3, 0),))
        self.amiss("left", 8, (2, 5, 4), (((0, 1), 1, 0),))
        self.amiss("left", 0, (1, 3, 1), (2, 0, 0))

    def test_ack_above_the_counts(self):
        marks = lambda *acks: ((B, acks),)
        self.so(of_book(0, 6), marks(((0,), 1, 0), ((1,), 3, 0), ((2,), 1, 0)))
        self.so(of_book(0, 6), marks(((0,), 3, 1)))
        self.amiss("ack", 0, of_book(0, 6), marks(((0,), 1, 0), ((1,), 4, 0)))
        self.amiss("ack", 1, of_book(1, 6), marks(((0, 1), 0, 0), ((2,), 2, 0)))
        self.amiss("ack", 2, of_book(2, 6), marks(((0,), 1, 2), ((1,), 2, 0)))
        self.amiss("ack", 1, of_book(1, 6), marks(((0, 1), 0, 0), ((1,), 2, 1)))
        self.amiss("ack", 7, (2, 4, 3), marks(((0,), 4, 0), ((1,), 2, 0)))
        self.amiss("ack", 4, (2, 1, 3), marks(((0,), 1, 2)))

    def test_ack_of_one_whose_letter_tells_the_thing(self):
        marks = lambda *acks: ((B, acks),)
        self.amiss("ack", 0, of_book(0, 6), marks(((0,), 0, 0)))
        self.amiss("ack", 0, of_book(0, 6), marks(((0,), 1, 0), ((1,), 1, 0)))
        self.amiss("ack", 2, of_book(2, 6), marks(((0,), 1, 0), ((1,), 1, 0)))
        self.amiss("ack", 4, (2, 1, 3), marks(((0,), 0, 0)))
        self.amiss("ack", 7, (2, 4, 3), marks(((1,), 0, 0)))
        self.amiss("ack", 0, of_book(0, 6), marks(((0,), 1, 0), ((1,), 0, 0)))
        told = changed(WORLD, (2, 5, 2), ((A, THING), (B, OTHER)))
        self.lets(told)
        self.refused("ack", 2, changed(told, of_book(2, 6), marks(((0,), 1, 0), ((1,), 2, 0), ((2,), 0, 0))))
        self.lets(changed(told, of_book(2, 6), marks(((0,), 1, 0), ((1,), 2, 0), ((2,), 1, 0))))

    def test_ack_of_one_that_is_not_shielded(self):
        """(1,) holds A and says it marks it no more; (0, 1) forgot the mark of B, and would take it."""
        self.refused("ack", 0, changed(changed(WORLD, of_book(0, 5), ((C, (A, "c", 3)),)), of_book(0, 6),
                                       ((A, (((0,), 3, 1), ((1,), 3, 0))), ROOT[6][0])))
        self.refused("ack", 0, changed(WORLD, of_book(1, 6), ()))
        forgot = changed(changed(WORLD, of_book(1, 6), ()), of_book(0, 6), ((B, (((0,), 1, 1),)),))
        self.refused("ack", 2, forgot)
        forgot = changed(forgot, of_book(2, 6), ((B, (((0,), 1, 1), ((1,), 2, 0))),))
        self.refused("ack", 4, changed(forgot, of_book(1, 7), (((0,), 1),)))
        self.refused("ack", 5, changed(forgot, (2, 1, 3), ((B, (((0,), 1, 1),)),)))
        behind = changed(changed(WORLD, of_book(1, 6), ()), of_book(1, 7), (((0,), 1), ((1,), 2)))
        self.lets(behind)

    def test_ack_with_children_behind_it(self):
        """(0, 1) holds B: it is a child above m of (0,)."""
        holds = changed(changed(WORLD, of_book(1, 5), ((A, THING), (B, OTHER))), of_book(1, 6), ())
        holds = changed(holds, (2, 2, 3), ())
        self.refused("ack", 0, holds)
        self.refused("ack", 0, changed(holds, of_book(0, 6), ((B, (((0,), 1, 0),)),)))
        holds = changed(holds, of_book(0, 6), ((B, (((0,), 1, 1),)),))
        self.refused("ack", 2, holds)
        holds = changed(holds, of_book(2, 6), ((B, (((0,), 1, 1), ((1,), 2, 0))),))
        self.refused("ack", 4, holds)
        holds = changed(holds, (2, 1, 3), ((B, (((0,), 1, 1),)),))
        self.refused("ack", 7, holds)
        holds = changed(holds, (2, 4, 3), ((B, (((1,), 2, 0),)),))
        self.lets(holds)

    def test_ack_with_letters_of_children_behind_it(self):
        """(0, 1) is off, and once told B."""
        told = changed(changed(WORLD, (1, 1, 1), (1, 0, 0)), (2, 2), ((0, 1), 0, ((B, OTHER),), (), ()))
        self.refused("ack", 0, told)
        told = changed(told, of_book(0, 6), ((B, (((0,), 1, 1),)),))
        self.refused("ack", 1, told)
        told = changed(told, of_book(2, 6), ((B, (((0,), 1, 1), ((0, 1), 1, 0), ((1,), 2, 0))),))
        self.refused("ack", 3, told)
        told = changed(changed(told, (2, 1, 3), ()), (2, 4, 3), ())
        self.lets(told)
        self.refused("ack", 1, changed(told, of_book(2, 6), ((B, (((0, 1), 0, 0), ((1,), 2, 0))),)))

    def test_ack_with_deeper_seats_behind_it(self):
        seats = [((0,), book((0,), 1, 2, 1, 2, (), ((A, (((0,), 1, 1),)),))), ((0, 1), (0, 0, 1)), ((0, 1, 1), (0, 0, 0)),
                 ((0, 2), (0, 0, 1)), ((0, 2, 1), (0, 0, 0))]
        self.lets((1, tuple(seats), ()))
        told = lambda k: self.with_seat(seats, k, (1, 0, 0), ((seats[k][0], 0, ((A, THING),), (), ()),))
        self.refused("ack", 0, told(4))
        self.lets(told(2))
        held = lambda k: self.with_seat(seats, k, book(seats[k][0], 1, things=((A, THING),)), ())
        self.refused("ack", 0, held(4))
        self.lets(held(2))

    def with_seat(self, seats, k, page, letters):
        return (1, (*seats[:k], (seats[k][0], page), *seats[k + 1:]), letters)

    def test_own(self):
        """A is held by others, or told by a letter, but its seat neither holds it nor is shielded for it."""
        lost = changed(WORLD, of_book(0, 5), ((C, (A, "c", 3)),))
        self.refused("own", 0, lost)
        self.refused("own", 2, changed(WORLD, of_book(2, 5), ((A, THING),)))
        self.refused("own", 0, changed(changed(lost, of_book(2, 5), ((C, (A, "c", 3)),)), of_book(1, 5), ()))
        one = (2, (((0,), book((0,), 2, 1, 1)), ((1,), (1, 0, 0))), (((1,), 0, ((A, THING),), (), ()),))
        self.refused("own", 0, one)
        self.lets(changed(one, of_book(0, 7), (((1,), 1),)))
        self.lets(changed(one, of_book(0, 8), (((1,), 0),)))
        self.lets(changed(one, of_book(0, 6), ((A, (((0,), 0, 0),)),)))
        self.lets(changed(one, of_book(0, 5), ((A, THING),)))
        self.lets(changed(one, (2,), (((1,), 0, (), (), ()),)))
        two = (2, (((0,), book((0,), 2, 1, 1)), ((1,), book((1,), 2, things=((A, THING),)))), ())
        self.refused("own", 0, two)
        self.lets(changed(two, of_book(0, 8), (((1,), 0),)))

    def test_own_of_a_later_page(self):
        world = (2, (((0,), book((0,), 2, things=((((1,), 2), THING),))), ((1,), book((1,), 2, 0, 2))), ())
        self.refused("own", 1, world)
        self.lets(changed(world, of_book(1, 5), ((((1,), 2), THING),)))

    def test_own_of_many(self):
        """Made may be of forty figures: nobody lost what nobody holds or tells."""
        for made in (1, 60, FORTY):
            self.assertIs(lets_world((1, (((0,), book((0,), 1, 0, made)),), ())), True)
            held = book((1,), 2, 0, 0, 0, ((((0,), made), THING),))
            with self.assertRaises(NoWorld) as caught:
                lets_world((2, (((0,), book((0,), 2, 0, made)), ((1,), held)), ()))
            self.assertEqual((caught.exception.word, caught.exception.place), ("own", 0))

    def test_two_amiss(self):
        """The word that is earlier in the list, then the earlier page."""
        single = [
            ("page", 1, of_book(1, 1), 4), ("page", 8, (2, 5, 1), 1), ("page", 7, (2, 4, 1), 3),
            ("named", 0, of_book(0, 8), (((1, 2), 0),)), ("named", 4, (2, 1, 2), ((((0,), 3), THING),)),
            ("thing", 2, of_book(2, 5), ((A, THING), (C, THING))), ("thing", 3, (2, 0, 2), ((A, OTHER), (B, OTHER))),
            ("fence", 0, of_book(0, 7), (((1,), 4),)), ("fence", 2, of_book(2, 7), (((0,), 9),)),
            ("cut", 1, of_book(1, 8), (((2,), 1),)), ("cut", 2, of_book(2, 8), (((0,), 2),)),
            ("left", 0, of_book(0, 9), (((2,), 2, 0),)), ("left", 7, (2, 4, 4), (((2,), 2, 0),)),
            ("ack", 2, of_book(2, 6), ((B, (((0,), 1, 2), ((1,), 2, 0))),)), ("ack", 0, of_book(0, 6), ((B, (((0,), 0, 0),)),)),
            ("own", 2, of_book(2, 5), ((A, THING),)), ("own", 0, of_book(0, 5), ((C, (A, "c", 3)),)),
        ]
        for word, page, place, part in single:
            self.amiss(word, page, place, part)
            self.refused("seats", -1, changed(changed(WORLD, place, part), (0,), 2))
            self.refused("shape", -1, changed(changed(WORLD, place, part), (0,), 5))
        for one, two in itertools.permutations(single, 2):
            if one[2] != two[2]:
                first = min(one, two, key=lambda told: (WORDS.index(told[0]), told[1]))
                self.refused(first[0], first[1], changed(changed(WORLD, one[2], one[3]), two[2], two[3]))

    def test_drawn_worlds(self):
        """Worlds behind some deeds are let by; bent ones are judged as by another way."""
        told = {}
        for number in range(150):
            for name, world in walk(number)[::4]:
                self.assertIs(lets_world(world), True)
            for world in spoiled_worlds(number, 25):
                word, at_letter = self.verdict(world)
                told[word, at_letter] = told.get((word, at_letter), 0) + 1
        for word in WORDS[2:]:
            self.assertGreater(told[word, False], 1, word)
        for word in ("page", "thing", "ack"):
            self.assertGreater(told[word, True], 0, word)
        self.assertGreater(told["", False], 500)

    def verdict(self, world):
        """The word by which both ways refuse it, and whether it is at a letter."""
        expected = verdict_by_words(world)
        if expected is True:
            self.assertIs(lets_world(world), True)
            return "", False
        with self.assertRaises(NoWorld) as caught:
            lets_world(world)
        self.assertEqual((caught.exception.word, caught.exception.place), expected, world)
        return expected[0], is_world(world) and expected[1] >= len(books_in(world))


class Lonely(unittest.TestCase):
    def test_each_right_book_stands_in_a_right_world(self):
        """[12], of worlds."""
        for one in RIGHT:
            self.assertIs(lets_world(lonely(one)), True)


if __name__ == "__main__":
    unittest.main()
