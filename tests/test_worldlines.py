"""Worlds as lines: [66]."""

import copy
import random
import unittest

from gonemarks.errors import GoneError, NoLines
from gonemarks.worldlines import read_world, world_lines
from gonemarks.worlds import first_world, is_world
from tests.samples import book
from tests.walks import spoiled_worlds, walk

MOST = 10 ** 40 - 1
A, B = ((0,), 1), ((0,), 2)
WORLD = (3, (((0,), book((0,), 3, 2, 2, 1, ((A, ((), "a", 1)),), ((B, (((0,), 1, 0),)),))), ((0, 1), (5, 1, 0)),
             ((1,), book((1,), 3)), ((2,), (MOST, 0, 0))),
         (((0,), 0, (), (), ()), ((0,), 1, ((A, ((), "a", 1)),), ((B, (((0,), 1, 0),)),), ()), ((2,), 0, (), (), (((1,), 3, 0),))))
LINES = """world 3
sits 0 3
seat 0 of 3 turn 2 made 2 brought 1
thing 0:1 in - name a value 1
mark 0:2 by 0 1 0
off 0.1 5 1 0
sits 1 1
seat 1 of 3 turn 0 made 0 brought 0
off 2 9999999999999999999999999999999999999999 0 0
letter 1
letter 0 0
letter 3
letter 0 1
thing 0:1 in - name a value 1
mark 0:2 by 0 1 0
letter 2
letter 2 0
left 1 3 0""".split("\n")
HEADS = (1, 5, 6, 8, 9, 11, 15)


def with_line(k, *lines):
    """LINES with other ones, or none, in the place of line k."""
    return [*LINES[:k], *lines, *LINES[k + 1:]]


class Lines(unittest.TestCase):
    def refused(self, row, lines):
        kept = copy.deepcopy(lines)
        for _ in range(2):
            with self.assertRaises(NoLines) as caught:
                read_world(lines)
            self.assertEqual(vars(caught.exception), {"row": row}, lines)
            self.assertIs(type(caught.exception.row), int)
            self.assertEqual((type(caught.exception), NoLines.__bases__), (NoLines, (GoneError,)))
        self.assertEqual(lines, kept)

    def both(self, world, lines):
        kept = copy.deepcopy((world, lines))
        for _ in range(2):
            self.assertEqual((world_lines(world), read_world(lines)), (lines, world))
            self.assertEqual((type(world_lines(world)), type(read_world(lines))), (list, tuple))
        self.assertEqual((world, lines), kept)
        self.assertTrue(is_world(read_world(lines)))

    def test_written_and_read(self):
        self.both(WORLD, LINES)
        self.both((1, (), ()), ["world 1"])
        self.both((4, (), ()), ["world 4"])
        self.both((1, (), WORLD[2]), ["world 1", *LINES[9:]])
        self.both((3, WORLD[1], ()), LINES[:9])
        self.both((1, (((0, 1, 1, 1, 1), (0, 0, 0)),), ()), ["world 1", "off 0.1.1.1.1 0 0 0"])
        for roots in (1, 2, 3, 4):
            self.both(first_world(roots), world_lines(first_world(roots)))

    def test_drawn_worlds(self):
        for number in range(60):
            for name, world in walk(number)[::5]:
                self.both(world, world_lines(world))

    def test_right_or_not(self):
        many = 0
        for number in range(40):
            for world in spoiled_worlds(number, 5):
                if is_world(world) and all(len(page) == 3 or page[0] == seat for seat, page in world[1]):
                    self.both(world, world_lines(world))
                    many += 1
        self.assertGreater(many, 100)
        self.both((1, (((3, 2), book((3, 2), 4)),), ()), ["world 1", "sits 3.2 1", "seat 3.2 of 4 turn 0 made 0 brought 0"])

    def test_books_of_another_seat_are_written_but_not_read(self):
        world = (2, (((0,), book((1,), 2)), ((1,), (0, 0, 0))), ())
        lines = ["world 2", "sits 0 1", "seat 1 of 2 turn 0 made 0 brought 0", "off 1 0 0 0"]
        self.assertEqual(world_lines(world), lines)
        self.refused(1, lines)
        self.refused(6, with_line(7, "seat 2 of 3 turn 0 made 0 brought 0"))
        self.refused(1, with_line(1, "sits 0.1 3"))
        self.refused(1, with_line(1, "sits 0.1 3")[:5])

    def test_no_lines(self):
        self.refused(0, [])

    def test_first_line(self):
        for line in ["", " ", "world", "world 0", "world 5", "world -1", "world 01", "world  1", " world 1", "world 1 ", "world 1 1", "world a",
                     "World 1", "worlds 1", "1", "1 world", "world 1" + "0" * 40, "world +1", "world 1.1", *LINES[1:]]:
            self.refused(0, [line])
            self.refused(0, [line, *LINES[1:]])
            self.refused(0, [line, "a"])
        for roots in (1, 2, 3, 4):
            self.assertEqual(read_world(with_line(0, f"world {roots}")), (roots, *WORLD[1:]))

    def test_lines_that_are_none(self):
        """At each place where a seat or a letter may come."""
        wrong = ["", " ", "a", "world 3", "sits", "sits 3", "sits 3 1 1", "sits  3 1", "sits 3  1", " sits 3 1", "sits 3 1 ", "sits 3 01",
                 "sits 3 -1", "sits 3 -0", "sits 3 a", "sits 4 1", "sits 3.0 1", "sits 3:1 1", "sits - 1", "sits 3.1.1.1.1.1 1", "sits 1 3 1",
                 "sits 3 " + "1" * 41, "off", "off 3", "off 3 0 0", "off 3 0 0 0 0", "off 3 0 0 100", "off 3 0 0 -1", "off 3 -1 0 0",
                 "off 3 0 -1 0", "off 3 00 0 0", "off 3 0 0 01", "off  3 0 0 0", "off 3 0 0 0 ", "off 3.1.1.1.1 0 0 1", "off 4 0 0 0",
                 "off 3:1 0 0 0", "off 3 a 0 0", "off 3 " + "1" * 41 + " 0 0", "off 3 0 " + "1" * 41 + " 0", "letter", "letter 1 ", "letter  1",
                 "letter 0 0", "letter 2 0", "letter 01", "letter -1", "letter -0", "letter a", "letter 0.1", "letter " + "1" * 41,
                 "Letter 1", "seats 3 1", "seat 3 of 3 turn 0 made 0 brought 0", "thing 0:3 in - name a value 1", "fence 0 1", "cut 0 0",
                 "left 1 3 0", "mark 0:3 by 0 0 0", "back 0"]
        for line in wrong:
            for k in [*HEADS, len(LINES)]:
                self.refused(k, [*LINES[:k], line, *LINES[k:]])
            self.refused(1, ["world 1", line])
            self.refused(1, ["world 1", line, "a"])

    def test_numbers(self):
        self.both((1, (((0,), (MOST, MOST, 99)), ((0, 1, 1, 1), (0, 0, 99))), ()),
                  ["world 1", "off 0 " + "9" * 40 + " " + "9" * 40 + " 99", "off 0.1.1.1 0 0 99"])

    def test_seats_that_are_not_greater(self):
        for line in ["off 0 0 0 0", "sits 0 1"]:
            self.refused(5, with_line(5, line))
        self.refused(8, with_line(8, "off 1 0 0 0"))
        self.refused(8, with_line(8, "off 0.1 0 0 0"))
        self.refused(8, with_line(8, "off 0.99 0 0 0"))
        self.refused(6, with_line(6, "sits 0.1 1"))
        self.refused(6, with_line(6, "sits 0 1"))
        self.refused(6, with_line(6, "sits 0.1 0"))
        self.refused(2, ["world 1", "off 0.10 0 0 0", "off 0.9 0 0 0"])
        self.assertTrue(is_world(read_world(["world 1", "off 0.9 0 0 0", "off 0.10 0 0 0"])))

    def test_seats_behind_a_letter(self):
        for k in (11, 15, 18):
            self.refused(k, [*LINES[:k], "off 3 0 0 0", *LINES[k:]])
            self.refused(k, [*LINES[:k], "sits 3 1", "seat 3 of 3 turn 0 made 0 brought 0", *LINES[k:]])

    def test_0_lines(self):
        """The line behind is told, also where there is none."""
        for k in (1, 6):
            seat = LINES[k].split(" ")[1]
            self.refused(k + 1, with_line(k, f"sits {seat} 0"))
            self.refused(k + 1, [*LINES[:k], f"sits {seat} 0"])
        for k in (9, 11, 15):
            self.refused(k + 1, with_line(k, "letter 0"))
            self.refused(k + 1, [*LINES[:k], "letter 0"])

    def test_fewer_lines_than_there_are(self):
        """The rest of the book, or of the letter, can't stand where it does then."""
        self.refused(4, with_line(1, "sits 0 2"))
        self.refused(3, with_line(1, "sits 0 1"))
        self.refused(14, with_line(11, "letter 2"))
        self.refused(13, with_line(11, "letter 1"))
        self.refused(17, with_line(15, "letter 1"))

    def test_more_lines_than_there_are(self):
        for many in (4, 5, 9, 999, MOST):
            self.refused(5, with_line(1, f"sits 0 {many}"))
        for many in (2, 3, MOST):
            self.refused(8, with_line(6, f"sits 1 {many}"))
            self.refused(11, with_line(9, f"letter {many}"))
        for many in (4, 9, MOST):
            self.refused(15, with_line(11, f"letter {many}"))

    def test_lines_lack(self):
        """How many lines there are is told, where those that there are can stand."""
        for k in range(len(LINES) + 1):
            if k in (0, 2, 3, 4, 7, 10, 12, 13, 14, 16, 17):
                self.refused(k, LINES[:k])
            else:
                self.assertTrue(is_world(read_world(LINES[:k])))
        for many in (3, 4, MOST):
            self.refused(18, with_line(15, f"letter {many}"))
            self.refused(8, with_line(6, f"sits 1 {many}")[:8])
        self.refused(3, [*LINES[:3]])
        self.refused(3, [*LINES[:3], "fence  0 1"])
        self.refused(4, [*LINES[:4], "a"])
        self.refused(17, [*LINES[:17], "mark 0:1 by 0 0 0"])

    def test_book_and_letter_lines_that_can_not_stand(self):
        for k in (2, 3, 4, 7, 10, 12, 13, 14, 16, 17):
            self.refused(k, with_line(k, "a"))
            self.refused(k, with_line(k, ""))
        self.refused(4, with_line(4, LINES[3]))
        self.refused(3, with_line(3, LINES[2]))
        self.refused(14, with_line(14, "mark 0:2 by 1 1 0"))
        self.refused(13, with_line(13, "fence 0 1"))

    def test_refusals_within_a_book_go_ahead_of_its_seat_and_of_lacking_lines(self):
        other = ["world 1", "sits 0 3", "seat 1 of 1 turn 0 made 0 brought 0", "cut 0 0", "fence 0 1"]
        self.refused(4, other)
        self.refused(3, other[:3])
        self.refused(4, other[:4])
        self.refused(1, [*other[:1], "sits 0 2", *other[2:4]])
        self.refused(3, ["world 1", "sits 0 9", "seat 1 of 1 turn 0 made 0 brought 0", "a"])

    def test_letters_that_are_not_greater(self):
        self.refused(11, with_line(12, "letter 0 0"))
        self.refused(3, ["world 1", *LINES[9:11], *LINES[9:11]])
        self.refused(3, ["world 1", "letter 1", "letter 1 5", "letter 1", "letter 1 4"])
        self.refused(3, ["world 1", "letter 1", "letter 1 5", "letter 1", "letter 0 9"])
        self.refused(5, ["world 1", "letter 1", "letter 1 5", "letter 1", "letter 1 9", "letter 1", "letter 1 7"])
        self.refused(3, ["world 1", "letter 1", "letter 1 5", "letter 2", "letter 1 5", "left 0 1 1"])
        self.refused(5, ["world 1", "letter 1", "letter 1 5", "letter 2", "letter 1 5"])
        self.refused(5, ["world 1", "letter 1", "letter 1 5", "letter 2", "letter 1 5", "a"])
        self.assertTrue(is_world(read_world(["world 1", "letter 1", "letter 1 5", "letter 1", "letter 1 10"])))
        self.assertTrue(is_world(read_world(["world 1", "letter 1", "letter 1 5", "letter 1", "letter 1.1 0"])))

    def test_lines_beyond(self):
        for line in ["", "a", "left 2 0 0", "mark 1:1 by 2 0 0", "world 3", "off 3 0 0 0"]:
            self.refused(18, [*LINES, line])

    def test_first_of_several_is_told(self):
        self.refused(5, with_line(5, "off 0 0 0 0", "a"))
        self.refused(1, ["world 1", "off 0 0 0 100", "sits 0 1", "a"])
        self.refused(2, ["world 1", "off 1 0 0 0", "sits 0 1", "a"])

    def test_told_lists_are_the_askers_own(self):
        lines = world_lines(WORLD)
        lines[0] = "else"
        lines.append("more")
        self.assertEqual(world_lines(WORLD), LINES)
        handed = list(LINES)
        told = read_world(handed)
        handed.clear()
        self.assertEqual(told, WORLD)

    def test_changed_lines(self):
        """Whatever is read writes just these lines again."""
        draw = random.Random(11)
        read = refused = 0
        for _ in range(4000):
            lines = list(LINES)
            for _ in range(draw.choice([1, 1, 2])):
                k = draw.randrange(len(lines))
                at = draw.randrange(len(lines[k]) + 1)
                new = lines[k][:at] + draw.choice(["", "0", "1", "2", ".", ":", " "]) + lines[k][at + draw.randint(0, 1):]
                lines[k:k + 1] = draw.choice([[new], [new], [new], [], [lines[k]] * 2])
            try:
                told = read_world(lines)
                read += 1
                self.assertTrue(is_world(told))
                self.assertEqual(world_lines(told), lines)
            except NoLines as error:
                refused += 1
                self.assertTrue(0 <= error.row <= len(lines))
        self.assertGreater(min(read, refused), 300)


if __name__ == "__main__":
    unittest.main()
