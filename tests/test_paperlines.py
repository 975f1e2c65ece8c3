"""Papers as lines: [45]."""

import copy
import random
import re
import unittest

from gonemarks.errors import GoneError, NoLines
from gonemarks.gochecker import is_paper
from gonemarks.going import paper_for
from gonemarks.paperlines import paper_lines, read_paper
from tests.samples import RIGHT

MOST = 10 ** 40 - 1
PAPER = (((0,), "has", 4, 2), ((0, 1), "has", 0, 0), ((0, 2), "cut", 0, 99), ((1,), "left", MOST, 3))
LINES = ["0 has 4 2", "0.1 has 0 0", "0.2 cut 99", "1 left " + "9" * 40 + " 3"]


class Lines(unittest.TestCase):
    def refused(self, row, lines):
        kept = copy.deepcopy(lines)
        for _ in range(2):
            with self.assertRaises(NoLines) as caught:
                read_paper(lines)
            self.assertEqual(caught.exception.row, row, lines)
            self.assertIs(type(caught.exception.row), int)
            self.assertEqual((type(caught.exception), NoLines.__bases__), (NoLines, (GoneError,)))
        self.assertEqual(lines, kept)

    def test_written_and_read(self):
        self.assertEqual(paper_lines(PAPER), LINES)
        self.assertEqual(read_paper(LINES), PAPER)
        self.assertEqual([type(paper_lines(PAPER)), type(read_paper(LINES))], [list, tuple])
        for row, line in zip(PAPER, LINES):
            self.assertEqual((paper_lines((row,)), read_paper([line])), ([line], (row,)))
        for five in ["0.1.1.1.1 has 0 0", "0.1.1.1.1 left 3 0", "0.1.1.1.1 cut 0"]:
            self.assertEqual(paper_lines(read_paper([five])), [five])

    def test_no_rows(self):
        self.assertEqual(paper_lines(()), [])
        self.assertEqual(read_paper([]), ())
        self.assertIs(type(read_paper([])), tuple)

    def test_papers_of_drawn_books(self):
        papers = [paper_for(one, dot) for one in RIGHT for dot, acks in one[6]]
        for paper in papers:
            if paper is not None:
                self.assertEqual(read_paper(paper_lines(paper)), paper)

    def test_lists_are_the_askers_own(self):
        lines = paper_lines(PAPER)
        lines[0] = "else"
        lines.append("more")
        self.assertEqual(paper_lines(PAPER), LINES)
        handed = list(LINES)
        told = read_paper(handed)
        handed.clear()
        self.assertEqual(told, PAPER)

    def test_lines_that_are_none(self):
        wrong = ["", " ", "0", "0 has", "0 has 1", "0 has 1 1 1", "0 cut", "0 cut 0 0", "0 cut 1 1", "0 left", "0 left 1", "has 0 1",
                 "0  has 1 1", "0 has  1 1", "0 has 1  1", " 0 has 1 1", "0 has 1 1 ", "0  cut 1", "0 cut  1", " 0 cut 1", "0 cut 1 ",
                 "0 has 01 1", "0 has 1 01", "0 has 00 0", "0 cut 01", "00 has 1 1", "0.01 has 1 1", "0 left 01 1", "0 left 1 00",
                 "0 has " + "1" * 41 + " 0", "0 left " + "1" * 41 + " 0", "0 has 0 " + "1" * 41, "0 cut " + "1" * 41,
                 "0 had 1 1", "0 Has 1 1", "0 cuts 1", "0 go 1 1", "0 by 1 1", "0 has -1 1", "0 has 1 -1", "0 has -0 1", "0 has +1 1",
                 "0 cut -1", "0 has 1 100", "0 left 1 100", "0 cut 100", "4 has 1 1", "-1 has 1 1", "0.0 has 1 1", "0.100 cut 1",
                 "0.1.1.1.1 has 1 1", "0.1.1.1.1 cut 1", "0.1.1.1.1 left 1 1", "0.1.1.1.1.1 has 1 0", "0:1 has 1 1", "- has 1 1",
                 "0 has a 1", "0 has 1 a", "0 has 1.1 1", "0, has 1 1", "0 0 has 1", "0 has - 1", "0 cut -", "0 cut cut", "0 cut 0 1"]
        for line in wrong:
            self.refused(0, [line])
            self.refused(2, LINES[:2] + [line] + LINES[2:])
            self.refused(4, LINES + [line, "a"])

    def test_seats_that_are_not_greater(self):
        self.refused(1, ["1 has 0 0", "0 has 0 0"])
        self.refused(1, ["0 has 0 0", "0 has 0 0"])
        self.refused(1, ["0 has 0 0", "0 left 5 5"])
        self.refused(1, ["0 cut 0", "0 has 0 0"])
        self.refused(1, ["0.1 cut 0", "0 has 0 0"])
        self.refused(2, ["0 cut 0", "1 has 0 0", "0.5 has 0 0", "a"])
        self.refused(3, LINES[:3] + ["0.2 left 1 1"])
        self.refused(3, LINES[:3] + ["0.1.1 left 1 1"])
        self.refused(1, ["0.10 has 0 0", "0.9 has 0 0"])
        self.assertTrue(is_paper(read_paper(["0.9 has 0 0", "0.10 has 0 0"])))

    def test_changed_lines_by_another_way(self):
        number = r"(?:0|[1-9][0-9]{0,39})"
        m = r"(?:0|[1-9][0-9]?)"
        form = rf"([0-3](?:\.[1-9][0-9]?){{0,4}}) (?:(?:has|left) {number}|cut) ({m})"
        draw = random.Random(3)
        many = 0
        for _ in range(3000):
            text = draw.choice([*LINES, "0.1.1.1.1 has 12 0", "2.3.4.5 cut 0"])
            for _ in range(draw.randint(1, 2)):
                k = draw.randrange(len(text) + 1)
                text = text[:k] + draw.choice(["", "0", "1", ".", "-", " ", "cut", "has"]) + text[k + draw.randint(0, 1):]
            found = re.fullmatch(form, text)
            if found and (found[1].count(".") < 4 or found[2] == "0"):
                many += 1
                self.assertEqual(paper_lines(read_paper([text])), [text])
            else:
                self.refused(0, [text])
        self.assertGreater(many, 200)


if __name__ == "__main__":
    unittest.main()
