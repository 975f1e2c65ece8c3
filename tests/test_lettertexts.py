"""Letters as lines: [27]."""

import copy
import random
import unittest

from gonemarks.errors import GoneError, NoLines
from gonemarks.letters import is_letter, is_right_letter
from gonemarks.lettertexts import letter_lines, read_letter
from gonemarks.texts import read_row
from tests.walks import walk

MOST = 10 ** 40 - 1
A, B, C = ((0,), 1), ((0,), 2), ((1, 2), 3)
LETTER = ((0, 1), 12, ((A, (C, "ab", -1)), (((0, 1), 1), ((), "a", 1))),
          ((B, (((0, 1), 0, 0),)), (C, (((0,), 0, 1), ((0, 1), 1, 1)))), (((1,), 4, 1), ((1, 1), 0, 0)))
LINES = """letter 0.1 12
thing 0:1 in 1.2:3 name ab value -1
thing 0.1:1 in - name a value 1
mark 0:2 by 0.1 0 0
mark 1.2:3 by 0 0 1 by 0.1 1 1
left 1 4 1
left 1.1 0 0""".split("\n")


class Lines(unittest.TestCase):
    def refused(self, row, lines):
        kept = copy.deepcopy(lines)
        for _ in range(2):
            with self.assertRaises(NoLines) as caught:
                read_letter(lines)
            self.assertEqual(vars(caught.exception), {"row": row}, lines)
            self.assertIs(type(caught.exception.row), int)
            self.assertEqual((type(caught.exception), NoLines.__bases__), (NoLines, (GoneError,)))
        self.assertEqual(lines, kept)

    def both(self, letter, lines):
        kept = copy.deepcopy((letter, lines))
        for _ in range(2):
            self.assertEqual((letter_lines(letter), read_letter(lines)), (lines, letter))
            self.assertEqual((type(letter_lines(letter)), type(read_letter(lines))), (list, tuple))
        self.assertEqual((letter, lines), kept)
        self.assertTrue(is_letter(read_letter(lines)))

    def test_written_and_read(self):
        self.both(LETTER, LINES)
        self.both(((0,), 0, (), (), ()), ["letter 0 0"])
        self.both(((3, 99, 99, 99, 99), MOST, (), (), ()), ["letter 3.99.99.99.99 " + "9" * 40])
        self.both(LETTER[:2] + (LETTER[2], (), ()), LINES[:3])
        self.both(LETTER[:2] + ((), LETTER[3], ()), LINES[:1] + LINES[3:5])
        self.both(LETTER[:2] + ((), (), LETTER[4]), LINES[:1] + LINES[5:])
        self.both(LETTER[:2] + (LETTER[2][1:], (), LETTER[4][:1]), [LINES[0], LINES[2], LINES[5]])

    def test_right_or_not(self):
        lines = ["letter 0 1", "thing 0:1 in 0:1 name a value 0", "mark 0:1 by 0 5 0", "left 0 0 0"]
        letter = ((0,), 1, ((A, (A, "a", 0)),), ((A, (((0,), 5, 0),)),), (((0,), 0, 0),))
        self.both(letter, lines)
        self.assertFalse(is_right_letter(letter))

    def test_drawn_letters(self):
        letters = [letter for number in range(160) for letter in walk(number)[-1][1][2]]
        self.assertGreater(len([letter for letter in letters if letter[2] and letter[3]]), 30)
        for letter in letters:
            self.assertEqual(len(letter_lines(letter)), 1 + len(letter[2]) + len(letter[3]) + len(letter[4]))
            self.both(letter, letter_lines(letter))

    def test_no_lines(self):
        self.refused(0, [])

    def test_first_line(self):
        wrong = ["", " ", "letter", "letter 0", "letter  0 1", "letter 0  1", " letter 0 1", "letter 0 1 ", "letter 0 1 1", "letter 0 01",
                 "letter 00 1", "letter 0 00", "letter 0 -1", "letter 0 -0", "letter 0 +1", "letter 4 1", "letter 0.0 1", "letter 0.100 1",
                 "letter 0.1.1.1.1.1 1", "letter 0. 1", "letter 0:1 1", "letter 1 0:1", "letter - 1", "letter 0 -", "letter 0 a", "Letter 0 1",
                 "letters 0 1", "0 1", "0 1 letter", "letter 0 " + "1" * 41, "letter 0 1" + "0" * 40, "letter " + "1" * 41 + " 0",
                 "seat 0 of 1 turn 0 made 0 brought 0", *LINES[1:]]
        for line in wrong:
            self.refused(0, [line])
            self.refused(0, [line, *LINES[1:]])
            self.refused(0, [line, "a"])
        self.both(((0,), int("1" * 40), (), (), ()), ["letter 0 " + "1" * 40])

    def test_a_line_struck_doubled_exchanged(self):
        for k in range(1, len(LINES)):
            self.assertTrue(is_letter(read_letter(LINES[:k] + LINES[k + 1:])))
            self.refused(k + 1, LINES[:k + 1] + LINES[k:])
        for k in range(2, len(LINES)):
            self.refused(k, LINES[:k - 1] + [LINES[k], LINES[k - 1]] + LINES[k + 1:])
        self.refused(0, [LINES[1], LINES[0], *LINES[2:]])
        self.refused(0, LINES[1:])
        self.refused(1, LINES[:1] + LINES)

    def test_lines_that_a_book_has(self):
        for line in ["seat 0.1 of 2 turn 0 made 0 brought 0", "fence 0 1", "fence 1 2", "cut 0 0", "cut 1 1", "letter 0.1 12", "letter 0.1 13"]:
            for k in range(1, len(LINES) + 1):
                self.refused(k, LINES[:k] + [line] + LINES[k:])
                self.refused(k, LINES[:k] + [line])

    def test_lines_that_are_none(self):
        for line in ["", " ", "a", "thing", "mark", "left", "left 0  1 1", "left 1 01 0", "left 1 1 100", "left 0.1.1.1.1 0 1", "left 2 1",
                     "left 2 " + "1" * 41 + " 0", "mark 1.2:4 by 0.1 0", "thing 0.1:2 in - name A value 1"]:
            for k in range(1, len(LINES) + 1):
                self.refused(k, LINES[:k] + [line] + LINES[k:])
        self.both(LETTER[:2] + ((), (), (((2,), MOST, 0),)), [LINES[0], "left 2 " + "9" * 40 + " 0"])

    def test_marks_without_an_ack_of_the_letters_seat(self):
        for line in ["mark 1.2:4", "mark 1.2:4 by 0 0 0", "mark 1.2:4 by 0 0 0 by 0.1.1 0 0", "mark 1.2:4 by 1 0 0"]:
            self.assertIsNotNone(read_row(line))
            self.refused(5, LINES[:5] + [line] + LINES[5:])
            self.refused(1, [LINES[0], line])
        self.refused(3, ["letter 0 12", *LINES[1:]])
        self.refused(3, ["letter 1 12", *LINES[1:]])

    def test_order(self):
        for one, two in [(1, 3), (1, 5), (3, 5)]:
            self.assertTrue(is_letter(read_letter([LINES[0], LINES[one], LINES[two]])))
            self.refused(2, [LINES[0], LINES[two], LINES[one]])

    def test_not_rising(self):
        self.refused(2, [LINES[0], "thing 0:2 in - name a value 1", "thing 0:1 in - name b value 1"])
        self.refused(2, [LINES[0], "thing 0:2 in - name a value 1", "thing 0:2 in - name b value 1"])
        self.refused(2, [LINES[0], "mark 0:10 by 0.1 0 0", "mark 0:9 by 0.1 0 0"])
        self.refused(3, [LINES[0], "left 0 9 0", "left 0.2 1 0", "left 0.2 2 0"])
        self.assertTrue(is_letter(read_letter([LINES[0], "mark 0:9 by 0.1 0 0", "mark 0:10 by 0.1 0 0"])))

    def test_first_of_several_is_told(self):
        self.refused(2, [LINES[0], "left 0 0 0", "mark 1:1 by 0 0 0", "a"])
        self.refused(1, [LINES[0], "mark 1:1", "left 0 0 0", "mark 1:1"])

    def test_told_lists_are_the_askers_own(self):
        lines = letter_lines(LETTER)
        lines[0] = "else"
        lines.append("more")
        self.assertEqual(letter_lines(LETTER), LINES)
        handed = list(LINES)
        told = read_letter(handed)
        handed.clear()
        self.assertEqual(told, LETTER)

    def test_changed_lines(self):
        """Whatever is read writes just these lines again; a refused row is the first that can't stand."""
        draw = random.Random(7)
        read = refused = 0
        for _ in range(3000):
            lines = list(LINES)
            k = draw.randrange(len(lines))
            at = draw.randrange(len(lines[k]) + 1)
            lines[k] = lines[k][:at] + draw.choice(["", "0", "1", "2", ".", ":", "-", " "]) + lines[k][at + draw.randint(0, 1):]
            try:
                told = read_letter(lines)
                read += 1
                self.assertTrue(is_letter(told))
                self.assertEqual(letter_lines(told), lines)
            except NoLines as error:
                refused += 1
                self.assertTrue(error.row in (k, k + 1) or k == 0)
                if error.row:
                    self.assertTrue(is_letter(read_letter(lines[:error.row])))
        self.assertGreater(min(read, refused), 300)


if __name__ == "__main__":
    unittest.main()
