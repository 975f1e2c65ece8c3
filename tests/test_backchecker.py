"""The small checker of contraries: [46], [47]."""

import copy
import itertools
import unittest

from gonemarks import errors
from gonemarks.backchecker import lets_back, steps_back
from gonemarks.books import right_book
from gonemarks.contrary import contrary_for
from gonemarks.errors import GoneError, NoBack
from gonemarks.letters import tell
from gonemarks.taking import take
from gonemarks.worldchecker import lets_world
from tests.samples import ODD, RIGHT, book, spoiled
from tests.walks import books_in, walk, with_page

DOT, OTHER = ((0,), 1), ((1,), 1)
THING = ((), "a", 1)
WORDS = ("shape", "world", "book", "seat", "holds", "cut")

ONE = book((0,), 3, 2, 1, 0, (), ((DOT, (((0,), 1, 0),)),), (), (((2,), 0),))
HOLDS = book((1,), 3, 4, 1, 0, ((DOT, THING), (OTHER, THING)))
CUT = book((2,), 3, 1, 0, 1, ((DOT, THING),))
WORLD = (3, (((0,), ONE), ((1,), HOLDS), ((2,), CUT), ((2, 1), (0, 0, 0))), ())


class Checker(unittest.TestCase):
    def lets(self, thing, one=ONE, dot=DOT):
        kept = copy.deepcopy((one, dot, thing))
        for _ in range(2):
            self.assertIs(lets_back(one, dot, thing), True)
        self.assertEqual(repr((one, dot, thing)), repr(kept))

    def refused(self, word, thing, one=ONE, dot=DOT):
        kept = copy.deepcopy((one, dot, thing))
        for _ in range(2):
            with self.assertRaises(NoBack) as caught:
                lets_back(one, dot, thing)
            self.assertEqual(vars(caught.exception), {"word": word})
            self.assertIs(type(caught.exception), NoBack)
        self.assertEqual(repr((one, dot, thing)), repr(kept))

    def test_error(self):
        self.assertEqual(NoBack.__bases__, (GoneError,))
        for name, other in vars(errors).items():
            if isinstance(other, type) and other not in (NoBack, GoneError):
                self.assertFalse(issubclass(NoBack, other) or issubclass(other, NoBack))

    def test_let_by(self):
        self.assertIs(right_book(ONE), True)
        self.assertIs(lets_world(WORLD), True)
        self.lets((WORLD, (1,)))

    def test_shape(self):
        for thing in [*ODD, *spoiled((WORLD[:2] + ((),), (1,))), WORLD, (WORLD,), (WORLD, (1,), ()), ((1,), WORLD), [WORLD, (1,)],
                      (WORLD, (4,)), (WORLD, ()), (WORLD, (1, 0)), (WORLD, 1), (WORLD, (True,)), (WORLD, [1]), (WORLD, None),
                      (None, (1,)), ((5, *WORLD[1:]), (1,)), ((3, WORLD[1][::-1], ()), (1,)), (ONE, (1,))]:
            self.refused("shape", thing)

    def test_world(self):
        for world in [(3, WORLD[1][:3], ()), (2, *WORLD[1:]), with_page(WORLD, (1,), book((1,), 2, things=HOLDS[5])),
                      with_page(WORLD, (1,), HOLDS[:7] + ((((0,), 3),),) + HOLDS[8:]),
                      with_page(WORLD, (2,), CUT[:5] + (((DOT, ((), "b", 1)),),) + CUT[6:])]:
            self.refused("world", (world, (1,)))
            self.refused("world", (world, (3, 3)))

    def test_book(self):
        for other in [ONE[:2] + (3,) + ONE[3:], ONE[:3] + (2,) + ONE[4:], ONE[:8] + ((), ()), HOLDS, CUT,
                      ONE[:7] + ((((1,), 1),),) + ONE[8:], ONE[:6] + (((DOT, (((0,), 2, 0),)),),) + ONE[7:]]:
            world = WORLD if other[0] != (0,) else with_page(WORLD, (0,), other)
            asked = ONE if other[0] == (0,) else other[:2] + (9,) + other[3:5] + ((),) + other[6:]
            self.assertIs(lets_world(world), True)
            self.refused("book", (world, (1,)), asked)
            self.refused("book", (world, (3, 3)), asked)
        off = with_page(WORLD, (0,), ONE[2:5])
        self.assertIs(lets_world(off), True)
        self.refused("book", (off, (1,)))
        elsewhere = book((0, 1), 3, 2, 1, 0, (), ((DOT, (((0, 1), 1, 0),)),))
        self.refused("book", (WORLD, (1,)), elsewhere)

    def test_seat(self):
        for z in [(0,), (2, 1), (3,), (1, 1), (0, 1), (3, 9, 9, 9, 9)]:
            self.refused("seat", (WORLD, z))

    def test_the_own_seat_ahead_of_what_it_holds(self):
        self.refused("seat", (WORLD, (0,)), ONE, OTHER)

    def test_holds(self):
        for part in [((OTHER, THING),), ((OTHER, (DOT, "a", 1)),)]:
            world = with_page(WORLD, (1,), HOLDS[:5] + (part,) + HOLDS[6:])
            self.assertIs(lets_world(world), True)
            self.refused("holds", (world, (1,)))
        marks = with_page(WORLD, (1,), HOLDS[:5] + (((OTHER, THING),), ((DOT, (((1,), 4, 0),)),)) + HOLDS[7:])
        self.assertIs(lets_world(marks), True)
        self.refused("holds", (marks, (1,)))

    def test_cut(self):
        self.refused("cut", (WORLD, (2,)))
        child = book((2, 1), 3, things=((DOT, THING),))
        self.refused("cut", (with_page(WORLD, (2, 1), child), (2, 1)))
        reached = with_page(with_page(WORLD, (2, 1), child), (0,), ONE[:8] + ((((2,), 1),), ()))
        self.lets((reached, (2, 1)), reached[1][0][1])
        self.refused("cut", (reached, (2,)), reached[1][0][1])

    def test_two_amiss(self):
        """The first word of the list is told, whatever else is amiss."""
        free = with_page(WORLD, (2,), CUT[:5] + ((),) + CUT[6:])
        self.assertIs(lets_world(free), True)
        self.refused("holds", (free, (2,)))
        self.refused("seat", (free, (2, 1)))
        other = ONE[:2] + (3,) + ONE[3:]
        for z in [(0,), (1,), (2,), (2, 1)]:
            self.refused("book", (free, z), other)
            self.refused("world", (free[:1] + (free[1][:3],) + free[2:], z), other)
            self.refused("shape", (free + ((),), z), other)

    def test_steps(self):
        """[47]: done one behind the other the thing is back."""
        told = (("drop", (0,), DOT), ("tell", (1,), (DOT,)), ("take", (0,), ((1,), 4)))
        kept = copy.deepcopy((ONE, DOT, WORLD))
        for _ in range(2):
            self.assertEqual(steps_back(ONE, DOT, (WORLD, (1,))), told)
            self.assertIs(type(steps_back(ONE, DOT, (WORLD, (1,)))), tuple)
        self.assertEqual((ONE, DOT, WORLD), kept)

    def came_back(self, one, dot, thing):
        """Whether the seat holds the dot behind the three deeds."""
        world, z = thing
        drop, telling, taking = steps_back(one, dot, thing)
        self.assertEqual((drop, telling), (("drop", one[0], dot), ("tell", z, (dot,))))
        dropped = one[:6] + (tuple(mark for mark in one[6] if mark[0] != dot),) + one[7:]
        behind, letter = tell(books_in(world)[z], telling[2])
        self.assertEqual(taking, ("take", one[0], letter[:2]))
        return dot in dict(take(dropped, letter)[5])

    def test_contraries_of_drawn_books(self):
        many = 0
        for one in RIGHT:
            for dot, acks in one[6]:
                thing = contrary_for(one, dot)
                if thing is not None:
                    many += 1
                    self.assertIs(lets_back(one, dot, thing), True)
                    self.assertTrue(self.came_back(one, dot, thing))
        self.assertGreater(many, 100)

    def test_drawn_worlds(self):
        """Every seat of worlds behind some deeds is asked, by another way too; what is let by comes back."""
        words = dict.fromkeys(WORDS, 0)
        many = 0
        for number in range(150):
            for name, world in walk(number)[::4]:
                books = books_in(world)
                for one, z in itertools.product(books.values(), dict(world[1])):
                    for dot, acks in one[6]:
                        word = self.word(one, dot, world, z)
                        if word:
                            words[word] += 1
                            self.refused(word, (world, z), one, dot)
                        else:
                            many += 1
                            self.assertIs(lets_back(one, dot, (world, z)), True)
                            self.assertTrue(self.came_back(one, dot, (world, z)))
        self.assertGreater(min(many, words["seat"], words["holds"]), 50)

    def word(self, one, dot, world, z):
        """[46], of a world let by in which the book stands."""
        books = books_in(world)
        if z not in books or z == one[0]:
            return "seat"
        if dot not in dict(books[z][5]):
            return "holds"
        return "cut" if any(self.is_behind(z, y, m) for y, m in one[8]) else ""

    def is_behind(self, z, y, m):
        return z == y or (z[:len(y)] == y and z[len(y):][0] > m)


if __name__ == "__main__":
    unittest.main()
