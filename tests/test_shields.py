"""Shields: [56], [57]."""

import copy
import unittest

from gonemarks.shields import shielded
from gonemarks.taking import is_passed, take
from gonemarks.worlds import is_world
from tests.samples import book
from tests.walks import books_in, dots_in, shielded_by_sets, shielded_by_striking, spoiled_worlds, walk

DOT, OTHER = ((0,), 1), ((0,), 2)
THING = ((), "a", 1)


def seat_with(seat, word="", fences=(), cuts=()):
    """A seat that holds the dot, marks it, or has neither; it sits, or is off."""
    if word == "off":
        return (seat, (9, 9, 0))
    things = ((DOT, THING),) if "holds" in word else ()
    marks = ((DOT, ((seat, 0, 0),)),) if "marks" in word else ()
    return (seat, book(seat, 4, 9, 9, 0, things, marks, fences, cuts))


def telling(seat, number, dot=DOT):
    return (seat, number, ((dot, THING),), (), ())


class Shields(unittest.TestCase):
    def told(self, seats, letters, shields, dot=DOT):
        world = (4, tuple(seats), tuple(letters))
        kept = copy.deepcopy(world)
        self.assertTrue(is_world(world))
        for _ in range(2):
            self.assertEqual(shielded(world, dot), tuple(shields))
            self.assertIs(type(shielded(world, dot)), tuple)
        self.assertEqual(world, kept)
        self.assertEqual(shielded_by_sets(world, dot), tuple(shields))

    def test_nobody_has_it(self):
        self.told([], [], [])
        self.told([seat_with((0,), "off")], [], [])
        self.told([seat_with((0,)), seat_with((1,)), seat_with((2,), "off")], [], [(0,), (1,)])

    def test_all_mark_it(self):
        self.told([seat_with((0,), "marks"), seat_with((1,), "marks")], [], [(0,), (1,)])
        self.told([seat_with((0,), "marks"), seat_with((1,), "marks")], [telling((0,), 3), telling((1,), 3)], [(0,), (1,)])

    def test_a_holder(self):
        self.told([seat_with((0,), "holds")], [], [])
        self.told([seat_with((0,), "holds"), seat_with((1,), "marks"), seat_with((2,))], [], [(1,)])
        self.told([seat_with((0,), "holds marks"), seat_with((1,), "marks")], [], [(1,)])

    def test_another_dot(self):
        self.told([seat_with((0,), "holds"), seat_with((1,), "marks")], [telling((0,), 0)], [(0,), (1,)], OTHER)

    def test_who_counts_on_one_in_the_set_and_on_one_that_is_not(self):
        self.told([seat_with((0,), "marks"), seat_with((1,))], [], [(0,), (1,)])
        self.told([seat_with((0,), "holds"), seat_with((1,))], [], [])
        self.told([seat_with((0,), "marks"), seat_with((1,)), seat_with((2,), "holds")], [], [(0,)])

    def test_letters_and_fences(self):
        told = [telling((0,), 2), telling((0,), 4)]
        for fence, safe in [(0, False), (3, False), (4, False), (5, True), (6, True)]:
            fences = (((0,), fence),) if fence else ()
            fenced = seat_with((1,), "", fences)
            self.told([seat_with((0,), "marks"), fenced], told, [(0,), (1,)] if safe else [(0,)])
            self.told([seat_with((0,), "off"), fenced], told, [(1,)] if safe else [])
            self.told([seat_with((0,)), fenced], told, [(0,), (1,)] if safe else [])

    def test_the_fence_of_another_seat(self):
        self.told([seat_with((0,), "off"), seat_with((1,), "", (((0, 1), 9), ((2,), 9))), seat_with((2,), "off")],
                  [telling((0,), 0)], [])
        self.told([seat_with((0,), "off"), seat_with((1,), "", (((0, 1), 9), ((2,), 9))), seat_with((2,), "off")],
                  [telling((2,), 8)], [(1,)])

    def test_own_letters_count_for_nothing(self):
        self.told([seat_with((0,)), seat_with((1,), "off")], [telling((0,), 3)], [(0,)])
        self.told([seat_with((0,)), seat_with((1,))], [telling((0,), 3)], [])

    def test_letters_of_seats_that_are_not_there(self):
        self.told([seat_with((0,))], [telling((0, 1), 3), telling((2,), 0), telling((3,), 9)], [(0,)])

    def test_letters_that_mark_or_only_name_it(self):
        within = ((1,), 3, ((OTHER, (DOT, "a", 1)),), (), ())
        marked = ((1,), 4, (), ((DOT, (((1,), 1, 0),)),), ())
        self.told([seat_with((0,)), seat_with((1,), "off")], [within, marked], [(0,)])

    def test_seats_that_are_passed_over(self):
        cut = (((1,), 0),)
        self.told([seat_with((0,), "", (), cut), seat_with((1,), "holds")], [], [(0,)])
        self.told([seat_with((0,), "", (), cut), seat_with((1,), "off")], [telling((1,), 3)], [(0,)])
        self.told([seat_with((0,), "", (), cut), seat_with((1,), "off"), seat_with((1, 1), "holds")], [], [(0,)])
        self.told([seat_with((0,), "", (), (((1,), 1),)), seat_with((1,), "off"), seat_with((1, 1), "holds")], [], [])
        self.told([seat_with((0,), "", (), (((1,), 1),)), seat_with((1,), "holds"), seat_with((1, 2), "holds")], [], [(0,)])
        self.told([seat_with((0,), "", (), cut), seat_with((1,), "holds"), seat_with((2,), "holds")], [], [])

    def chain(self, seats, last):
        """Each counts on the next one alone: it has cut all others."""
        made = []
        for k, seat in enumerate(seats):
            after = seats[(k + 1) % len(seats)]
            cuts = tuple((other, 99) for other in seats if other not in (seat, after))
            made.append(seat_with(seat, last if k + 1 == len(seats) else "", (), cuts))
        return made

    def test_a_chain(self):
        seats = [(0,), (1,), (2,), (3,)]
        self.told(self.chain(seats, "holds"), [], [])
        self.told(self.chain(seats, "marks"), [], seats)
        self.told(self.chain(seats, "off"), [], seats[:3])
        self.told(self.chain(seats, "off"), [telling((3,), 0)], [])
        self.told(self.chain(seats, "marks"), [telling((3,), 0)], [(3,)])

    def test_a_round(self):
        """The greatest set, not the least: each counts on the next one, the last on the first."""
        seats = [(0,), (1,), (2,), (3,)]
        self.told(self.chain(seats, ""), [], seats)
        self.told(self.chain(seats, ""), [telling((2,), 0)], [])
        self.told([seat_with((0,)), seat_with((1,))], [], [(0,), (1,)])

    def test_part_of_a_world(self):
        """Two that count on one another alone are shielded beside one that holds it."""
        cut = (((2,), 0),)
        self.told([seat_with((0,), "", (), cut), seat_with((1,), "", (), cut), seat_with((2,), "holds"), seat_with((3,))], [], [])
        both = (((2,), 0), ((3,), 0))
        self.told([seat_with((0,), "", (), both), seat_with((1,), "", (), both), seat_with((2,), "holds"), seat_with((3,))],
                  [], [(0,), (1,)])

    def test_books_of_other_seats(self):
        """No right worlds, but WORLDs: x sits with a book of z; what is other is told by x, what is passed by the book."""
        one = seat_with((1,), "", (), (((1,), 0), ((2,), 0)))[1]
        self.told([((0,), one), seat_with((1,), "holds")], [], [])
        self.told([((0,), one), seat_with((2,), "holds")], [], [(0,)])

    def test_a_long_chain(self):
        """Without [4]'s bounds: a hundred seats, each of which counts on the next one."""
        seats = [(0,)] + [(0, i) for i in range(1, 100)]
        self.assertEqual(shielded((1, tuple(self.chain(seats, "holds")), ()), DOT), ())
        self.assertEqual(shielded((1, tuple(self.chain(seats, "")), ()), DOT), tuple(seats))

    def test_drawn_worlds(self):
        sizes = {}
        for number in range(80):
            worlds = [world for name, world in walk(number)[::3]]
            worlds += [world for world in spoiled_worlds(number, 6) if is_world(world)]
            for world in worlds:
                for dot in dots_in(world)[:8]:
                    told = shielded(world, dot)
                    self.assertEqual(told, shielded_by_striking(world, dot))
                    if len(books_in(world)) < 5:
                        self.assertEqual(told, shielded_by_sets(world, dot))
                    part = (len(told) > 0) + (len(told) == len(books_in(world)))
                    sizes[part] = sizes.get(part, 0) + 1
        self.assertGreater(min(sizes.get(part, 0) for part in (0, 1, 2)), 100)

    def test_who_is_shielded_takes_it_from_no_letter(self):
        """[57]."""
        many = 0
        for number in range(100):
            for name, world in walk(number)[::3]:
                books = books_in(world)
                for dot in dots_in(world)[:8]:
                    shields = shielded(world, dot)
                    for letter in world[2]:
                        if dot in dict(letter[2]):
                            for x in shields:
                                many += not is_passed(books[x], letter)
                                self.assertNotIn(dot, dict(take(books[x], letter)[5]))
        self.assertGreater(many, 30)


if __name__ == "__main__":
    unittest.main()
