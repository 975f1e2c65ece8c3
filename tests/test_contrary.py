"""Contraries: [48], [49], [50]."""

import copy
import random
import unittest

from gonemarks.backchecker import lets_back
from gonemarks.books import known_seats, right_book
from gonemarks.contrary import contrary_for, contrary_lines, read_contrary, verdict
from gonemarks.errors import GoneError, NoBack, NoLines, NoPaper
from gonemarks.gochecker import lets_go
from gonemarks.going import paper_for
from gonemarks.knowing import lacking
from gonemarks.worldchecker import lets_world
from gonemarks.worldlines import world_lines
from gonemarks.worlds import first_world, is_world
from tests.samples import RIGHT, book
from tests.walks import books_in, lonely, spoiled_worlds, walk, with_page

DOT, OTHER, FAR = ((0,), 1), ((1,), 3), ((0, 1), 2)
THING = ((), "a", 1)
ONE = book((0,), 3, 5, 4, 2, ((((0,), 2), (((2,), 7), "b", 1)), (FAR, (OTHER, "c", 2)), (OTHER, THING)),
           ((DOT, (((0,), 1, 1), ((0, 1), 3, 1))), (((1,), 1), (((0,), 0, 0), ((1,), 2, 1), ((2,), 9, 0)))),
           (((0, 2), 1), ((1,), 6)))


def drawn_books():
    """Right books, made by hand and behind some deeds."""
    return RIGHT + [one for number in range(60) for name, world in walk(number)[::6] for one in books_in(world).values()]


class Contraries(unittest.TestCase):
    def kept(self, one, dot):
        """A contrary is told, and no paper, twice; what is handed in stays."""
        before = copy.deepcopy((one, dot))
        for _ in range(2):
            thing = contrary_for(one, dot)
            self.assertIs(type(thing), tuple)
            self.assertIs(lets_back(one, dot, thing), True)
            self.assertIsNone(paper_for(one, dot))
            told = verdict(one, dot)
            self.assertEqual((type(told), len(told), told[0]), (tuple, 2, "kept"))
            self.assertIs(lets_back(one, dot, told[1]), True)
        self.assertEqual(verdict(one, dot), told)
        self.assertEqual(contrary_for(one, dot), thing)
        self.assertEqual((one, dot), before)
        return thing

    def goes(self, one, dot):
        before = copy.deepcopy((one, dot))
        for _ in range(2):
            self.assertIsNone(contrary_for(one, dot))
            told = verdict(one, dot)
            self.assertEqual((type(told), len(told), told[0]), (tuple, 2, "go"))
            self.assertIs(lets_go(one, dot, told[1]), True)
        self.assertEqual(verdict(one, dot), told)
        self.assertEqual((one, dot), before)
        return told[1]

    def test_no_lacking_seat(self):
        alone = book((0,), 1, 3, 1, 0, (), ((DOT, (((0,), 2, 0),)),))
        self.assertEqual(self.goes(alone, DOT), (((0,), "has", 2, 0),))
        both = book((0,), 2, 3, 1, 0, (), ((DOT, (((0,), 2, 0), ((1,), 4, 0))),))
        self.goes(both, DOT)
        self.goes(both[:6] + (((DOT, (((0,), 2, 0),)),), (), (((1,), 0),)) + both[9:], DOT)
        self.goes(both[:6] + (((DOT, (((0,), 2, 0),)),), (), (), (((1,), 5, 0),)), DOT)

    def test_one_lacking_seat(self):
        one = book((0,), 2, 3, 1, 0, (), ((DOT, (((0,), 2, 0),)),))
        world, z = self.kept(one, DOT)
        self.assertEqual((z, lacking(one, DOT)), ((1,), ((1,),)))
        self.assertEqual(dict(world[1])[(0,)], one)
        deep = book((0,), 1, 3, 1, 2, (), ((DOT, (((0,), 2, 2), ((0, 2), 0, 0))),))
        self.assertEqual(lacking(deep, DOT), ((0, 1),))
        self.kept(deep, DOT)

    def test_several_lacking_seats(self):
        self.assertIs(right_book(ONE), True)
        self.assertEqual(lacking(ONE, DOT), ((0, 1, 1), (1,), (2,)))
        self.assertEqual(lacking(ONE, ((1,), 1)), ((1, 1),))
        self.kept(ONE, DOT)
        self.kept(ONE, ((1,), 1))

    def test_a_seat_of_five_numbers(self):
        five = (0, 1, 1, 1, 1)
        acks = tuple((five[:size], 0, 1) for size in range(1, 5))
        one = book((0,), 1, 3, 1, 1, (), ((DOT, acks),))
        self.assertEqual(lacking(one, DOT), (five,))
        self.kept(one, DOT)

    def test_the_dot_and_the_own_things_of_the_lacking_seat(self):
        """The dot is one of z's own; z put others that the book holds, and marks what the book knows it marks."""
        dot = ((1,), 2)
        one = book((0,), 2, 5, 0, 0, ((((1,), 1), (((1,), 9), "b", 1)), (((1,), 4), THING)),
                   ((dot, (((0,), 1, 0),)), (((1,), 3), (((0,), 1, 0), ((1,), 7, 2)))), (((1,), 8),))
        self.assertIs(right_book(one), True)
        world, z = self.kept(one, dot)
        self.assertEqual(z, (1,))
        self.assertIn(dot, dict(dict(world[1])[z][5]))

    def test_the_one_that_the_document_tells(self):
        """[48]: z has its own things that the book holds, and the marks of which the book has its ACK, with this one."""
        dot = ((0,), 1)
        one = book((0,), 2, 5, 2, 1, ((((0,), 2), THING), (((1,), 1), (((1,), 9), "b", 1))),
                   ((dot, (((0,), 1, 0),)), (((1,), 3), (((0,), 1, 0), ((1,), 7, 2)))), (((1,), 8),))
        world, z = self.kept(one, dot)
        page = dict(world[1])[z]
        self.assertEqual((z, page[:5]), ((1,), ((1,), 2, 8, 9, 2)))
        self.assertEqual([held[0] for held in page[5]], [dot, ((1,), 1)])
        self.assertEqual(page[5][1], one[5][1])
        self.assertEqual(page[6:], (((((1,), 3), (((1,), 7, 2),)),), (), (), ()))
        off = {seat: counts for seat, counts in world[1] if len(counts) == 3}
        self.assertEqual(off, {(0, 1): (0, 0, 0), (1, 1): (0, 0, 0), (1, 2): (0, 0, 0)})
        self.assertEqual((world[0], world[2]), (2, ()))

    def test_great_numbers(self):
        most = 10 ** 39
        one = book((0,), 2, 10 ** 6, 60, 0, (), ((((1,), most), (((0,), 5, 0),)),), (((1,), most),))
        self.kept(one, ((1,), most))

    def test_drawn_books(self):
        """[48], [49]: just one of both is told, and it is let by."""
        words = {"go": 0, "kept": 0}
        for one in drawn_books():
            for dot, acks in one[6]:
                word, what = verdict(one, dot)
                words[word] += 1
                self.assertEqual(word == "go", not lacking(one, dot))
                if word == "go":
                    self.assertIs(lets_go(one, dot, what), True)
                    self.assertIsNone(contrary_for(one, dot))
                else:
                    self.assertIsNone(paper_for(one, dot))
                    self.assertIs(lets_back(one, dot, what), True)
                    self.assertIs(lets_back(one, dot, contrary_for(one, dot)), True)
                    self.assertTrue(what[1] in known_seats(one))
        self.assertGreater(min(words.values()), 60)

    def is_let_back(self, one, dot, thing):
        try:
            return lets_back(one, dot, thing)
        except NoBack:
            return False

    def is_let_go(self, one, dot, paper):
        try:
            return lets_go(one, dot, paper)
        except NoPaper:
            return False

    def test_never_both_in_drawn_worlds(self):
        """[49]: where there is a paper no world, right or bent, is a contrary; where there is a contrary no paper goes."""
        many = 0
        for number in range(100):
            for world in [*[world for name, world in walk(number)[::3]], *spoiled_worlds(number, 30)]:
                if not is_world(world):
                    continue
                for one in books_in(world).values():
                    for dot, acks in one[6]:
                        for z in books_in(world):
                            if self.is_let_back(one, dot, (world, z)):
                                many += 1
                                self.assertNotEqual(lacking(one, dot), ())
        self.assertGreater(many, 200)

    def test_never_both_of_worlds_made_for_it(self):
        """A book whose mark may go, and each other known seat made to hold the dot in turn: none is let by."""
        many = 0
        for one in drawn_books():
            for dot, acks in one[6]:
                if paper_for(one, dot) is None:
                    continue
                world = lonely(one)
                self.assertIs(lets_world(world), True)
                for z in known_seats(one):
                    if z != one[0]:
                        counts = dict(world[1])[z]
                        holds = (z, one[1], *counts, ((dot, THING),), (), (), (), ())
                        many += 1
                        self.assertFalse(self.is_let_back(one, dot, (with_page(world, z, holds), z)))
        self.assertGreater(many, 100)

    def test_papers_by_others(self):
        """Where there is a contrary, no paper made of the rows that are so is let by."""
        draw = random.Random(3)
        many = 0
        for one in RIGHT:
            for dot, acks in one[6]:
                if contrary_for(one, dot) is None:
                    continue
                rows = [(y, "has", a, m) for y, a, m in acks] + [(y, "left", b, m) for y, b, m in one[9]]
                rows += [(y, "cut", 0, m) for y, m in one[8]]
                for _ in range(5):
                    chosen = {row[0]: row for row in draw.sample(rows, len(rows))}
                    many += 1
                    self.assertFalse(self.is_let_go(one, dot, tuple(chosen[y] for y in sorted(chosen))))
        self.assertGreater(many, 100)


class Lines(unittest.TestCase):
    def refused(self, row, lines):
        kept = copy.deepcopy(lines)
        for _ in range(2):
            with self.assertRaises(NoLines) as caught:
                read_contrary(lines)
            self.assertEqual(vars(caught.exception), {"row": row}, lines)
            self.assertIs(type(caught.exception.row), int)
            self.assertEqual((type(caught.exception), NoLines.__bases__), (NoLines, (GoneError,)))
        self.assertEqual(lines, kept)

    def both(self, thing, lines):
        kept = copy.deepcopy((thing, lines))
        for _ in range(2):
            self.assertEqual((contrary_lines(thing), read_contrary(lines)), (lines, thing))
            self.assertEqual((type(contrary_lines(thing)), type(read_contrary(lines))), (list, tuple))
        self.assertEqual((thing, lines), kept)

    LINES = ["back 1.2", "world 2", "off 0 1 2 0", "sits 1 1", "seat 1 of 2 turn 0 made 0 brought 0", "letter 1", "letter 0 0"]

    def test_written_and_read(self):
        self.both(((2, (((0,), (1, 2, 0)), ((1,), book((1,), 2))), (((0,), 0, (), (), ()),)), (1, 2)), self.LINES)
        self.both(((1, (), ()), (3, 99, 99, 99, 99)), ["back 3.99.99.99.99", "world 1"])
        self.both((first_world(3), (0,)), ["back 0", *world_lines(first_world(3))])

    def test_contraries(self):
        for one in RIGHT[:150]:
            for dot, acks in one[6]:
                thing = contrary_for(one, dot)
                if thing is not None:
                    self.both(thing, contrary_lines(thing))
                    self.assertIs(lets_back(one, dot, read_contrary(contrary_lines(thing))), True)

    def test_no_lines(self):
        self.refused(0, [])
        self.refused(1, ["back 0"])

    def test_first_line(self):
        for line in ["", " ", "back", "back ", "back  0", " back 0", "back 0 ", "back 0 0", "back 4", "back 00", "back 0.0", "back 0.100", "back -",
                     "back 0:1", "back 0.1.1.1.1.1", "back -1", "back 0.", "back a", "Back 0", "backs 0", "0", "0 back", "world 2", "sits 0"]:
            self.refused(0, [line])
            self.refused(0, [line, *self.LINES[1:]])
            self.refused(0, [line, "a"])

    def test_rows_of_the_world_are_one_greater(self):
        for k in range(1, len(self.LINES)):
            self.refused(k, [*self.LINES[:k], "a", *self.LINES[k + 1:]])
        self.refused(1, self.LINES[:1])
        self.refused(4, self.LINES[:4])
        self.refused(6, self.LINES[:6])
        self.refused(7, [*self.LINES, "a"])
        self.refused(3, [*self.LINES[:3], "sits 0 1", *self.LINES[4:]])
        self.refused(3, [*self.LINES[:4], "seat 0 of 2 turn 0 made 0 brought 0"])
        self.refused(4, [*self.LINES[:3], "sits 1 0", *self.LINES[4:]])
        self.refused(5, [*self.LINES[:3], "sits 1 5", *self.LINES[4:]])
        self.refused(5, [*self.LINES[:3], "sits 1 5", self.LINES[4]])
        self.refused(1, ["back 0", "back 0", "world 1"])

    def test_told_lists_are_the_askers_own(self):
        thing = (first_world(2), (1,))
        lines = contrary_lines(thing)
        lines[0] = "else"
        lines.append("more")
        self.assertEqual(contrary_lines(thing), ["back 1", *world_lines(first_world(2))])
        handed = contrary_lines(thing)
        told = read_contrary(handed)
        handed.clear()
        self.assertEqual(told, thing)


if __name__ == "__main__":
    unittest.main()
