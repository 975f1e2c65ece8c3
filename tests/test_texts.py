"""Texts: [17], [18], [19]."""

import copy
import random
import re
import unittest

from gonemarks.books import is_book, right_book
from gonemarks.errors import GoneError, NoLines
from gonemarks.texts import (book_lines, dot_text, number_text, read_book, read_dot, read_number, read_row, read_seat,
                             row_text, seat_text)
from tests.samples import FORTY, RIGHT, SEATS, book, drawn_book

MOST = 10 ** 40 - 1
A, C = ((0,), 1), ((1, 2), 3)


class Numbers(unittest.TestCase):
    def test_written_and_read(self):
        told = {0: "0", 1: "1", -1: "-1", 10: "10", -999: "-999", MOST: "9" * 40, -MOST: "-" + "9" * 40,
                FORTY: "1" + "0" * 38 + "7"}
        for number, text in told.items():
            self.assertEqual(number_text(number), text)
            self.assertEqual(read_number(text), number)
            self.assertIs(type(read_number(text)), int)

    def test_none(self):
        wrong = ["", "-", "-0", "00", "01", "-01", "+1", "+0", " 1", "1 ", " ", "1 2", "1_0", "1.0", "1e3", "0x1", "a", "--1",
                 "1-", "1" * 41, "-" + "1" * 41, "0" * 41, "1" * 999, "0" + "1" * 40, "~", "1,000", ".", ":", "1:", "/", ";"]
        for text in wrong:
            self.assertIsNone(read_number(text), text)


class Seats(unittest.TestCase):
    def test_written_and_read(self):
        for seat, text in [((0,), "0"), ((3, 99), "3.99"), ((0, 2), "0.2"), ((1, 1, 10, 1, 99), "1.1.10.1.99")]:
            self.assertEqual(seat_text(seat), text)
            self.assertEqual(read_seat(text), seat)
        for seat in SEATS:
            self.assertEqual(read_seat(seat_text(seat)), seat)
            self.assertIs(type(read_seat(seat_text(seat))), tuple)

    def test_none(self):
        wrong = ["", ".", "0.", ".1", "0..1", "4", "-1", "0.0", "0.100", "0.-1", "0.01", "00", "0.1.1.1.1.1", "0,1", "0 1", " 0",
                 "0 ", "0. 1", "0:1", "+0", "-0", "a", "0.1.", "0.1a", "(0,)", "0." + "1" * 41]
        for text in wrong:
            self.assertIsNone(read_seat(text), text)


class Dots(unittest.TestCase):
    def test_written_and_read(self):
        for dot, text in [(((0, 2), 5), "0.2:5"), (((3,), 1), "3:1"), (((0, 1, 1, 1, 1), MOST), "0.1.1.1.1:" + "9" * 40)]:
            self.assertEqual(dot_text(dot), text)
            self.assertEqual(read_dot(text), dot)
            self.assertIs(type(read_dot(text)), tuple)

    def test_none(self):
        wrong = ["", ":", "0", "0:", ":1", "0:0", "0:-1", "0:01", "0::1", "0:1:1", "0:1:", ":0:1", "4:1", "0.0:1", "0. :1", "0:1 ",
                 " 0:1", "0 :1", "0: 1", "0:+1", "0.1.1.1.1.1:1", "0:" + "1" * 41, "0.:1", "0.1.:1", "-", "0:1.1", "-0:1"]
        for text in wrong:
            self.assertIsNone(read_dot(text), text)


FORMS = [
    (("seat", ((0, 1), 4, 12, 3, 99)), "seat 0.1 of 4 turn 12 made 3 brought 99"),
    (("seat", ((0,), 1, 0, 0, 0)), "seat 0 of 1 turn 0 made 0 brought 0"),
    (("seat", ((0, 1, 1, 1, 1), 1, MOST, MOST, 0)), f"seat 0.1.1.1.1 of 1 turn {MOST} made {MOST} brought 0"),
    (("thing", (A, ((), "a", 0))), "thing 0:1 in - name a value 0"),
    (("thing", (C, (A, "abcdefgh", -999))), "thing 1.2:3 in 0:1 name abcdefgh value -999"),
    (("thing", (A, (A, "in", 999))), "thing 0:1 in 0:1 name in value 999"),
    (("mark", (A, ())), "mark 0:1"),
    (("mark", (A, (((0,), 3, 1),))), "mark 0:1 by 0 3 1"),
    (("mark", (C, (((0,), 0, 99), ((0, 1), 12, 0), ((1,), MOST, 2)))), f"mark 1.2:3 by 0 0 99 by 0.1 12 0 by 1 {MOST} 2"),
    (("fence", ((0, 3), 1)), "fence 0.3 1"),
    (("cut", ((2,), 0)), "cut 2 0"),
    (("cut", ((2,), 99)), "cut 2 99"),
    (("left", ((1, 1), 0, 99)), "left 1.1 0 99"),
    (("left", ((1, 1, 1, 1, 1), 7, 0)), "left 1.1.1.1.1 7 0"),
]

NO_ROWS = """|seat|seat 0|thing|mark|fence|cut|left|a|0|row|Seat 0 of 1 turn 0 made 0 brought 0
seat 0 of 0 turn 0 made 0 brought 0|seat 0 of 5 turn 0 made 0 brought 0|seat 4 of 1 turn 0 made 0 brought 0
seat 0 of 1 turn -1 made 0 brought 0|seat 0 of 1 turn 0 made -1 brought 0|seat 0 of 1 turn 0 made 0 brought -1
seat 0 of 1 turn 0 made 0 brought 100|seat 0.1.1.1.1 of 1 turn 0 made 0 brought 1|seat 0 of 1 made 0 turn 0 brought 0
seat 0 of 1 turn 00 made 0 brought 0|seat 0 at 1 turn 0 made 0 brought 0|seat 0:1 of 1 turn 0 made 0 brought 0
seat 0 of 1 turn 0 made 0 brought 0 0|seat 0 of 1 turn 0 made 0 brought|seat 0 of 1 turn 0 made 0
seat - of 1 turn 0 made 0 brought 0|seat 0 of 1 turn 0 made 0 brought 0 in 0|seat 0 of 1 turn a made 0 brought 0
thing 0:1 in - name a value 1000|thing 0:1 in - name a value -1000|thing 0:1 in - name A value 0
thing 0:1 in - name abcdefghi value 0|thing 0:0 in - name a value 0|thing 0 in - name a value 0
thing - in - name a value 0|thing 0:1 in 0 name a value 0|thing 0:1 in 0:0 name a value 0|thing 0:1 in  name a value 0
thing 0:1 in () name a value 0|thing 0:1 in - name  value 0|thing 0:1 in - name a value|thing 0:1 in - name a value -0
thing 0:1 in - name a value 0 0|thing 0:1 in - value 0 name a|thing 0:1 name a value 0|thing 0:1 on - name a value 0
thing 0:1 in - name a worth 0|thing 0:1 in - called a value 0|thing 0:1 in -- name a value 0|thing 0:1 in - name a1 value 0
mark 0|mark 0:0|mark -|mark 0:1 by|mark 0:1 by 0|mark 0:1 by 0 0|mark 0:1 by 0 0 0 0|mark 0:1 by 0 0 0 by|mark 0:1 by 0 -1 0
mark 0:1 by 0 0 -1|mark 0:1 by 0 0 100|mark 0:1 by 0.1.1.1.1 0 1|mark 0:1 by 4 0 0|mark 0:1 on 0 0 0|mark 0:1 0 0 0
mark 0:1 by 1 0 0 by 0 0 0|mark 0:1 by 0 0 0 by 0 0 0|mark 0:1 by 0 0 0 by 0 1 0|mark 0:1 by 0 0 0 in 1 0 0
mark 0:1 by 0 01 0|mark 0:1 by 0 0 a|mark 0:1  by 0 0 0|mark 0:1 |mark  0:1|mark 0:1 by 0 0 0 |mark 0:1 by 0 0 0 by 1 0
fence 0 0|fence 0 -1|fence 0|fence 0 1 1|fence 0:1 1|fence 4 1|fence 0 01|fence 0 a|fence  1|fence 0 +1|fence 1
cut 0 -1|cut 0 100|cut 0|cut 0 0 0|cut 0.1.1.1.1 1|cut 4 0|cut 0 00|cut - 0|cut  0|cuts 0 0|cut 0:1 0|cut 0 0 1
left 0 0|left 0 0 0 0|left 0 -1 0|left 0 0 -1|left 0 0 100|left 0.1.1.1.1 0 1|left 4 0 0|left 0  0|left 0 a 0|left 0"""


class Rows(unittest.TestCase):
    def test_each_form(self):
        for row, text in FORMS:
            self.assertEqual(row_text(row), text)
            self.assertEqual(read_row(text), row)
            self.assertEqual(read_row(text), row)

    def test_told_kinds(self):
        def kinds(thing):
            return [kinds(item) for item in thing] if type(thing) is tuple else type(thing)
        for row, text in FORMS:
            self.assertEqual(kinds(read_row(text)), kinds(row))

    def test_no_rows(self):
        for line in NO_ROWS.split("\n"):
            for text in line.split("|"):
                self.assertIsNone(read_row(text), text)

    def test_blanks_and_words(self):
        for row, text in FORMS:
            words = text.split(" ")
            for k in range(len(words) + 1):
                self.assertIsNone(read_row(" ".join(words[:k] + [""] + words[k:])))
                self.assertIsNone(read_row(" ".join(words[:k] + ["a"] + words[k:])))
            for k in range(len(words)):
                if row[0] != "mark" or len(words[:k] + words[k + 1:]) != 2:
                    self.assertIsNone(read_row(" ".join(words[:k] + words[k + 1:])), words[:k] + words[k + 1:])
                self.assertIsNone(read_row(" ".join(words[:k] + [words[k] + "~"] + words[k + 1:])))
                self.assertIsNone(read_row(" ".join(words[:k] + ["A"] + words[k + 1:])))
            self.assertIsNone(read_row(text.replace(" ", "  ", 1)) if " " in text else None)
            self.assertIsNone(read_row(text.upper()))

    def test_figures(self):
        more = "1" * 41
        for text in [f"seat 0 of 1 turn {more} made 0 brought 0", f"seat 0 of 1 turn 0 made {more} brought 0",
                     f"mark 0:{more}", f"mark 0:1 by 0 {more} 0", f"fence 0 {more}", f"left 0 {more} 0",
                     f"thing 0:{more} in - name a value 0", f"thing 0:1 in 0:{more} name a value 0"]:
            self.assertIsNone(read_row(text))
            self.assertIsNotNone(read_row(text.replace(more, "1" * 40)))

    def test_changed_lines_by_another_way(self):
        draw = random.Random(2)
        many = 0
        for _ in range(6000):
            text = draw.choice(FORMS)[1]
            for _ in range(draw.randint(1, 2)):
                k = draw.randrange(len(text) + 1)
                text = text[:k] + draw.choice(["", "0", "1", "9", ".", ":", "-", " ", "a"]) + text[k + draw.randint(0, 1):]
            row = read_row(text)
            self.assertEqual(row is not None, fits(text), text)
            if row is not None:
                many += 1
                self.assertEqual(row_text(row), text)
        self.assertGreater(many, 300)


N = r"(?:0|[1-9][0-9]{0,39})"
M = r"(?:0|[1-9][0-9]?)"
S = r"[0-3](?:\.[1-9][0-9]?){0,4}"
D = S + r":[1-9][0-9]{0,39}"
REGEXES = [
    rf"seat {S} of [1-4] turn {N} made {N} brought {M}",
    rf"thing {D} in (?:-|{D}) name [a-z]{{1,8}} value (?:0|-?[1-9][0-9]{{0,2}})",
    rf"mark {D}(?: by {S} {N} {M})*",
    rf"fence {S} [1-9][0-9]{{0,39}}",
    rf"cut {S} {M}",
    rf"left {S} {N} {M}",
]


def numbers_of(text):
    return tuple(int(part) for part in text.split("."))


def fits(text):
    """[18] by another way: whether a line is of one of the forms, its m's by its seats and its acks rising."""
    if not any(re.fullmatch(regex, text) for regex in REGEXES):
        return False
    told = re.findall(rf"by ({S}) {N} ({M})", text)
    told += re.findall(rf"^seat ({S}) .* brought ({M})", text) + re.findall(rf"^cut ({S}) ({M})", text)
    told += re.findall(rf"^left ({S}) {N} ({M})", text)
    if any(seat.count(".") == 4 and m != "0" for seat, m in told):
        return False
    seats = [numbers_of(seat) for seat, m in told]
    return all(one < two for one, two in zip(seats, seats[1:]))


WHOLE = book((0, 1), 2, 3, 2, 1, ((A, (C, "ab", -1)), (((0, 1), 1), ((), "a", 1))),
             ((((0,), 2), ()), (C, (((0,), 0, 1), ((0, 1), 1, 1)))),
             (((0,), 1), ((1,), 2)), (((0, 2), 0), ((1,), 1)), (((1,), 4, 1), ((1, 1), 0, 0)))
LINES = """seat 0.1 of 2 turn 3 made 2 brought 1
thing 0:1 in 1.2:3 name ab value -1
thing 0.1:1 in - name a value 1
mark 0:2
mark 1.2:3 by 0 0 1 by 0.1 1 1
fence 0 1
fence 1 2
cut 0.2 0
cut 1 1
left 1 4 1
left 1.1 0 0""".split("\n")


class Books(unittest.TestCase):
    def refused(self, row, lines):
        kept = copy.deepcopy(lines)
        for _ in range(2):
            with self.assertRaises(NoLines) as caught:
                read_book(lines)
            self.assertEqual(caught.exception.row, row)
            self.assertIs(type(caught.exception.row), int)
            self.assertEqual((type(caught.exception), NoLines.__bases__), (NoLines, (GoneError,)))
        self.assertEqual(lines, kept)

    def test_whole(self):
        self.assertEqual(book_lines(WHOLE), LINES)
        self.assertEqual(read_book(LINES), WHOLE)
        self.assertIs(type(read_book(LINES)), tuple)
        self.assertIs(type(book_lines(WHOLE)), list)
        self.assertEqual(book_lines(book()), ["seat 0 of 2 turn 0 made 0 brought 0"])
        self.assertEqual(read_book(book_lines(book())), book())

    def test_and_back(self):
        for one in RIGHT + [drawn_book(number) for number in range(200)]:
            kept = copy.deepcopy(one)
            lines = book_lines(one)
            again = read_book(lines)
            self.assertEqual(again, one)
            self.assertTrue(is_book(again))
            self.assertEqual(len(lines), 1 + sum(len(part) for part in one[5:]))
            self.assertEqual(one, kept)

    def test_right_or_not(self):
        wrong = ["seat 0 of 1 turn 0 made 0 brought 0", "mark 0:1", "fence 0 1", "left 3 0 0"]
        self.assertRaises(GoneError, right_book, read_book(wrong))

    def test_told_lists_are_the_askers_own(self):
        lines = book_lines(WHOLE)
        lines[0] = "else"
        lines.append("more")
        self.assertEqual(book_lines(WHOLE), LINES)
        handed = list(LINES)
        told = read_book(handed)
        handed.clear()
        self.assertEqual(told, WHOLE)

    def test_no_line(self):
        self.refused(0, [])

    def test_first_line(self):
        for lines in [LINES[1:], ["mark 0:1"], ["fence 0 1", "seat 0 of 1 turn 0 made 0 brought 0"], [""], ["a"]]:
            self.refused(0, lines)

    def test_seat_again(self):
        self.refused(1, [LINES[0], LINES[0]])
        self.refused(1, [LINES[0], "seat 1 of 2 turn 3 made 2 brought 1"])
        self.refused(11, LINES + ["seat 3 of 2 turn 3 made 2 brought 1"])

    def test_no_row_at_each_place(self):
        for k in range(len(LINES) + 1):
            for line in ["", "a", " ", "cut 0 100", "mark 0:1 ", "letter 0 1"]:
                self.refused(k, LINES[:k] + [line] + LINES[k:])
                self.refused(k, LINES[:k] + [line, "b", ""])

    def test_order(self):
        one_each = [LINES[0], LINES[1], LINES[3], LINES[5], LINES[7], LINES[9]]
        self.assertTrue(is_book(read_book(one_each)))
        for k in range(1, 5):
            for later in range(k + 1, 6):
                self.refused(2, [LINES[0], one_each[later], one_each[k]])
                self.assertTrue(is_book(read_book([LINES[0], one_each[k], one_each[later]])))

    def test_not_rising(self):
        for k in (1, 3, 5, 7, 9):
            self.refused(k + 1, LINES[:k] + [LINES[k + 1], LINES[k]] + LINES[k + 2:])
            self.refused(k + 1, LINES[:k + 1] + LINES[k:])
        self.refused(2, [LINES[0], "fence 0 1", "fence 0 2"])
        self.refused(2, [LINES[0], "thing 0:2 in - name a value 1", "thing 0:1 in - name b value 1"])
        self.refused(2, [LINES[0], "cut 1 0", "cut 0.9 0"])
        self.refused(3, [LINES[0], "left 0 9 0", "left 0.1 1 0", "left 0.1 2 0"])
        self.assertTrue(is_book(read_book([LINES[0], "mark 0:9", "mark 0:10"])))

    def test_first_of_several_is_told(self):
        self.refused(2, [LINES[0], "cut 0 0", "fence 0 1", "a", LINES[0]])


if __name__ == "__main__":
    unittest.main()
