"""A desk: [83], and what is promised over the whole of it, [2], [5]."""

import copy
import random
import unittest

from gonemarks.alike import are_alike
from gonemarks.deeds import done, walked
from gonemarks.desk import Desk
from gonemarks.errors import GoneError, NoDeed, NoMeeting, NoRow
from gonemarks.going import paper_for
from gonemarks.gone import gone_dots, state_of
from gonemarks.knowing import lacking
from gonemarks.meetings import meeting, rounds
from gonemarks.taking import is_passed
from gonemarks.texts import dot_text, seat_text
from gonemarks.views import names_at, row_at, shown, sum_at
from gonemarks.worldchecker import lets_world
from gonemarks.worlds import first_world
from tests.walks import books_in

LOOKS = ["shown 0", "shown 1", "names 0 -", "row 0 -", "sum 0 - fig", "marks 0", "marks 1", "alike 0 1", "state 0:1",
         "gone", "check"]


class Case(unittest.TestCase):
    def says(self, desk, *talk):
        """Each row of the talk, "row > answer", is answered so."""
        for line in talk:
            row, answer = line.split(" > ")
            told = desk.say(row)
            self.assertEqual(told, answer, row)
            self.assertIs(told.__class__, str)

    def refused(self, desk, row, own, word=None):
        """A refusal of this class; the desk is as it was."""
        kept = copy.deepcopy(vars(desk))
        for _ in range(2):
            with self.assertRaises(own) as caught:
                desk.say(row)
            self.assertIs(caught.exception.__class__, own)
            if own is NoRow:
                self.assertIs(caught.exception.row, row)
            else:
                self.assertEqual(caught.exception.word, word, row)
        self.assertEqual(vars(desk), kept)


class Answers(Case):
    def test_at_first(self):
        for roots in range(1, 5):
            self.says(Desk(roots), "shown 0 > -", "names 0 - > -", "row 0 - > -", "sum 0 - a > 0", "marks 0 > -",
                      "gone > -", "check > yes", "state 0:1 > none", "alike 0 0 > yes", "names 0 0:1 > -",
                      "row 0 3.99.1.1.1:7 > -", "sum 0 0:1 zzzzzzzz > 0", "rounds > ok")
            self.assertEqual(Desk(roots).say(f"fall {roots - 1}"), "ok")
            self.refused(Desk(roots), f"fall {roots}", NoRow)

    def test_put_and_views(self):
        desk = Desk(1)
        self.says(desk, "put 0 - fig 5 > 0:1", "put 0 0:1 pear -7 > 0:2", "put 0 0:1 fig 999 > 0:3",
                  "put 0 0:2 zzzzzzzz -999 > 0:4", "put 0 - a 0 > 0:5", "put 0 - fig -20 > 0:6", "put 0 - fig 0 > 0:7",
                  "shown 0 > 0:1 - fig 5, 0:2 0:1 pear -7, 0:3 0:1 fig 999, 0:4 0:2 zzzzzzzz -999, 0:5 - a 0, "
                  "0:6 - fig -20, 0:7 - fig 0",
                  "names 0 - > a fig", "names 0 0:1 > fig pear", "names 0 0:2 > zzzzzzzz", "names 0 0:3 > -",
                  "row 0 - > 0:6 0:5 0:7 0:1", "row 0 0:1 > 0:2 0:3", "row 0 0:9 > -", "sum 0 - fig > -15",
                  "sum 0 0:1 fig > 999", "sum 0 - pear > 0", "marks 0 > -", "state 0:7 > held", "state 0:8 > none")

    def test_one_thing_shown(self):
        desk = Desk(1)
        self.says(desk, "put 0 - fig 5 > 0:1", "shown 0 > 0:1 - fig 5", "row 0 - > 0:1", "names 0 - > fig")

    def test_out(self):
        desk = Desk(2)
        self.says(desk, "put 0 - a 1 > 0:1", "put 0 0:1 b 2 > 0:2", "put 0 - c 3 > 0:3", "out 0 0:1 > ok",
                  "shown 0 > 0:3 - c 3", "marks 0 > 0:1 0:2", "state 0:1 > gone", "gone > 0:1 0:2", "check > yes")
        self.refused(desk, "out 0 0:1", NoDeed, "held")
        self.refused(desk, "out 1 0:3", NoDeed, "held")
        self.refused(desk, "out 0 3.1:77", NoDeed, "held")
        self.refused(desk, "put 0 0:1 a 1", NoDeed, "within")
        self.refused(desk, "put 1 0:3 a 1", NoDeed, "within")

    def test_tell_and_take(self):
        desk = Desk(2)
        self.says(desk, "put 0 - a 1 > 0:1", "tell 0 > 0", "tell 0 > 1", "tell 1 > 0", "take 1 0 0 > ok",
                  "take 1 0 0 > ok", "take 1 0 1 > ok", "take 0 0 0 > passed", "shown 1 > 0:1 - a 1", "alike 0 1 > yes",
                  "out 1 0:1 > ok", "alike 0 1 > no", "state 0:1 > held", "tell 1 > 1", "take 0 1 1 > ok",
                  "marks 0 > 0:1", "alike 1 0 > yes")
        self.refused(desk, "take 1 0 2", NoDeed, "letter")
        self.refused(desk, "take 0 1 999999999", NoDeed, "letter")

    def test_go_and_keep(self):
        desk = Desk(3)
        self.says(desk, "bring 1 > 1.1", "put 0 - a 1 > 0:1", "out 0 0:1 > ok", "go 0 0:1 > keep 1 2", "tell 0 > 0",
                  "take 1 0 0 > ok", "go 1 0:1 > keep 1.1 2", "tell 1 > 0", "take 0 1 0 > ok", "go 0 0:1 > keep 1.1 2",
                  "cut 0 1.1 > ok", "go 0 0:1 > keep 2", "cut 0 2 > ok", "go 0 0:1 > ok", "marks 0 > -",
                  "marks 1 > 0:1", "state 0:1 > gone", "check > yes")
        self.refused(desk, "go 0 0:1", NoDeed, "mark")
        self.refused(desk, "go 2 0:1", NoDeed, "mark")
        self.refused(desk, "go 0 0:2", NoDeed, "mark")
        self.refused(desk, "go 0 3:1", NoDeed, "mark")

    def test_go_of_a_held_dot(self):
        desk = Desk(1)
        self.says(desk, "put 0 - a 1 > 0:1")
        self.refused(desk, "go 0 0:1", NoDeed, "mark")

    def test_passed(self):
        """By a cut, below a fence, of a seat's own letters, of seats that are off."""
        desk = Desk(2)
        self.says(desk, "put 0 - a 1 > 0:1", "tell 0 > 0", "bring 0 > 0.1", "take 0.1 0 0 > passed", "tell 0 > 1",
                  "take 0.1 0 1 > ok", "cut 1 0 > ok", "take 1 0 0 > passed", "take 1 0 1 > passed", "fall 0 > ok",
                  "take 0.1 0 0 > passed", "take 0.1 0 1 > ok", "take 1 0 1 > passed", "check > yes")

    def test_bring(self):
        desk = Desk(1)
        self.says(desk, "put 0 - a 1 > 0:1", "bring 0 > 0.1", "bring 0.1 > 0.1.1", "bring 0 > 0.2",
                  "alike 0 0.1.1 > yes", "bring 0.1.1 > 0.1.1.1", "bring 0.1.1.1 > 0.1.1.1.1",
                  "put 0.1.1.1.1 0:1 b 2 > 0.1.1.1.1:1",
                  "check > yes")
        self.refused(desk, "bring 0.1.1.1.1", NoDeed, "deep")
        self.says(desk, *[f"bring 0 > 0.{i}" for i in range(3, 100)])
        self.refused(desk, "bring 0", NoDeed, "many")

    def test_cut(self):
        desk = Desk(3)
        self.says(desk, "bring 1 > 1.1", "cut 0 1 > ok", "fall 2 > ok", "cut 0 2 > ok")
        self.refused(desk, "cut 0 1", NoDeed, "again")
        self.refused(desk, "cut 0 0", NoDeed, "own")
        self.refused(desk, "cut 0 1.1", NoDeed, "seat")
        self.refused(desk, "cut 2 0", NoRow)

    def test_leave_and_fall(self):
        desk = Desk(3)
        self.says(desk, "put 0 - a 1 > 0:1", "leave 0 1 > ok", "shown 1 > 0:1 - a 1", "state 0:1 > held", "fall 1 > ok",
                  "state 0:1 > adrift", "take 2 0 0 > ok", "shown 2 > 0:1 - a 1", "check > yes", "fall 2 > ok",
                  "gone > 0:1", "state 0:1 > gone", "rounds > ok", "check > yes")
        for row in ["put 0 - a 1", "leave 0 1", "leave 2 2", "fall 1", "shown 2", "bring 2", "tell 0", "alike 0 0"]:
            self.refused(desk, row, NoRow)

    def test_leave_refused(self):
        desk = Desk(3)
        self.says(desk, "cut 1 0 > ok", "fall 2 > ok")
        self.refused(desk, "leave 0 0", NoDeed, "own")
        self.refused(desk, "leave 0 1", NoDeed, "over")
        self.refused(desk, "leave 0 2", NoRow)
        self.says(desk, "leave 1 0 > ok")

    def test_meet(self):
        desk = Desk(3)
        self.says(desk, "put 0 - a 1 > 0:1", "put 1 - b 2 > 1:1", "alike 0 1 > no", "meet 0 1 > ok", "alike 0 1 > yes",
                  "shown 1 > 0:1 - a 1, 1:1 - b 2", "shown 2 > -", "tell 0 > 1", "tell 1 > 1", "cut 2 0 > ok")
        self.refused(desk, "meet 0 0", NoMeeting, "sits")
        self.refused(desk, "meet 0 2", NoMeeting, "over")
        self.refused(desk, "meet 2 0", NoMeeting, "over")
        self.says(desk, "fall 2 > ok")
        self.refused(desk, "meet 0 2", NoRow)

    def test_rounds(self):
        desk = Desk(3)
        self.says(desk, "put 0 - a 1 > 0:1", "put 0 - b 2 > 0:2", "meet 0 1 > ok", "out 1 0:1 > ok", "bring 2 > 2.1",
                  "rounds > ok", "marks 0 > -", "marks 1 > -", "marks 2 > -", "marks 2.1 > -", "gone > 0:1",
                  "state 0:2 > held", "check > yes", "fall 2 > ok")
        self.refused(desk, "rounds", NoMeeting, "off")
        self.says(desk, "cut 0 1 > ok")
        self.refused(desk, "rounds", NoMeeting, "cut")

    def test_lists_go_by_numbers(self):
        desk = Desk(2)
        self.says(desk, "put 0 - a 1 > 0:1", *[f"bring 0 > 0.{i}" for i in range(1, 12)], "out 0 0:1 > ok",
                  "go 0 0:1 > keep " + " ".join(f"0.{i}" for i in range(1, 12)) + " 1",
                  *[f"put 0 - b 2 > 0:{k}" for k in range(2, 12)],
                  "row 0 - > " + " ".join(f"0:{k}" for k in range(2, 12)),
                  "out 0 0:10 > ok", "out 0 0:9 > ok", "marks 0 > 0:1 0:9 0:10", "gone > 0:9 0:10",
                  "put 0.2 - c 1 > 0.2:1", "put 0.10 - c 1 > 0.10:1", "leave 0.10 0.2 > ok",
                  "row 0.2 - > 0:1 0.2:1 0.10:1", "names 0.2 - > a c")

    def test_forty_figures(self):
        desk = Desk(1)
        self.says(desk, f"state 0:{10 ** 39} > none", f"row 0 0:{'9' * 40} > -")
        self.refused(desk, f"state 0:{10 ** 40}", NoRow)


class NoRows(Case):
    def setUp(self):
        """0, 1, 1.1 sit, 2 is off, 3 and 0.1 aren't there."""
        self.desk = Desk(3)
        self.says(self.desk, "put 0 - fig 1 > 0:1", "put 0 - fig 1 > 0:2", "out 0 0:2 > ok", "tell 0 > 0",
                  "bring 1 > 1.1", "fall 2 > ok")

    def none(self, *rows):
        for row in rows:
            self.refused(self.desk, row, NoRow)

    RIGHT = ["put 0 - fig 1", "out 0 0:1", "tell 0", "take 1 0 0", "go 0 0:2", "bring 0", "cut 0 1", "leave 0 1",
             "fall 0", "meet 0 1", "rounds", "shown 0", "names 0 -", "row 0 -", "sum 0 - fig", "marks 0", "alike 0 1",
             "state 0:1", "gone", "check"]

    def test_right_ones_are_none_of_these(self):
        for row in self.RIGHT:
            desk = copy.deepcopy(self.desk)
            try:
                desk.say(row)
            except GoneError as refusal:
                self.assertNotIsInstance(refusal, NoRow)

    def test_other_words(self):
        self.none("", " ", "putt 0 - fig 1", "Put 0 - fig 1", "drop 0 0:2", "outline 0 -", "0", "-", "seat 0", "lookup",
                  "standing 0 -", "world", "None", "ok", "PUT 0 - fig 1", "checks", "tell,0")

    def test_too_few_and_too_many(self):
        for row in self.RIGHT:
            words = row.split(" ")
            self.none(*[" ".join(words[:size]) for size in range(len(words))])
            self.none(row + " 0", row + " -", row + " 0:1", row + " fig", row + " " + row)

    def test_blanks(self):
        for row in self.RIGHT:
            self.none(" " + row, row + " ", row + "  ", row + "\n", "\t" + row, row.replace(" ", "\t") + "\t")
            if " " in row:
                self.none(row.replace(" ", "  "), row.replace(" ", "  ", 1), row.replace(" ", "\t"),
                          row.replace(" ", ""))

    def test_seats(self):
        """Those that are off, that aren't there, and texts that are no seat's."""
        bad = ["2", "3", "0.1", "1.2", "1.1.1", "4", "-1", "00", "0.", ".0", "0,", "1.01", "1.0", "0.100", "(0,)", "-",
               "0:1", "a", "1.1.1.1.1.1", "+0", "0.-1", "1..1", "01"]
        for row in self.RIGHT:
            words = row.split(" ")
            for k, word in enumerate(words):
                if word in ("0", "1") and not (k == 3 and words[0] == "take") and not (k == 4 and words[0] == "put"):
                    for seat in bad:
                        # A seat that is off may be one FROM which letters came, or that is cut.
                        if not (k == 2 and words[0] in ("take", "cut") and seat == "2"):
                            self.none(" ".join([*words[:k], seat, *words[k + 1:]]))

    def test_from_one_that_is_off(self):
        self.refused(self.desk, "take 0 2 0", NoDeed, "letter")
        self.says(self.desk, "cut 0 2 > ok")
        self.none("take 2 0 0", "cut 2 0", "take 0 3 0", "cut 0 3", "take 0 1.2 0", "cut 0 0.1")

    def test_dots(self):
        for dot in ["-", "0", "0:0", "0:-1", "0:01", "0:1:1", ":1", "0:", "4:1", "0.0:1", "0.100:1", "0:1.", "0 :1",
                    "0:" + "1" * 41, "0:+1", "a:1", "0:a", "0.1.1.1.1.1:1", "-:1", ""]:
            self.none(f"out 0 {dot}", f"go 0 {dot}", f"state {dot}")
            if dot != "-":
                self.none(f"put 0 {dot} fig 1", f"names 0 {dot}", f"row 0 {dot}", f"sum 0 {dot} fig")
        self.none("put 0 -- fig 1", "row 0 ()", "names 0 --", "sum 0 () fig")

    def test_names(self):
        for name in ["", "Fig", "fi g", "abcdefghi", "f1", "1", "-", "a-b", "a_b", "fIg", "a.", "a,"]:
            self.none(f"put 0 - {name} 1", f"sum 0 - {name}")

    def test_values(self):
        for value in ["", "-0", "00", "01", "-01", "1000", "-1000", "+1", "1.0", "a", "-", "--1", "1-", "0x1", "1_0",
                      "0001", "99 9"]:
            self.none(f"put 0 - fig {value}")
        self.says(copy.deepcopy(self.desk), "put 0 - a 999 > 0:3", "put 0 - a -999 > 0:4", "put 0 - a 0 > 0:5",
                  "put 0 - a -1 > 0:6")

    def test_numbers(self):
        for number in ["", "-0", "-1", "00", "01", "1000000000", "0000000000", "+1", "1.0", "a", "-", "1_0"]:
            self.none(f"take 1 0 {number}")
        self.refused(self.desk, "take 1 0 999999999", NoDeed, "letter")
        self.refused(self.desk, "take 1 0 1", NoDeed, "letter")

    def test_ahead_of_all_else(self):
        """Each would be refused for another cause, too."""
        self.none("out 0 0:9 ", "put 0 0:9 fig 1000", "take 1 0 01", "go 1 0:01", "cut 0 0 0", "leave 0 2", "meet 2 2",
                  "rounds 0")


class Apart(Case):
    def test_two_desks(self):
        one, other = Desk(2), Desk(2)
        self.says(one, "put 0 - a 1 > 0:1", "tell 0 > 0", "bring 0 > 0.1", "fall 1 > ok")
        self.says(other, "shown 0 > -", "tell 0 > 0", "put 1 - b 2 > 1:1", "shown 1 > 1:1 - b 2", "bring 0 > 0.1")
        self.says(one, "shown 0 > 0:1 - a 1")
        answers = ["-", "-", "-", "-", "0", "-", "-", "yes", "none", "-", "yes"]
        self.says(Desk(2), *[f"{look} > {answer}" for look, answer in zip(LOOKS, answers)])

    def test_looks_turn_nothing(self):
        desk = Desk(2)
        self.says(desk, "put 0 - fig 1 > 0:1", "put 0 - fig 1 > 0:2", "out 0 0:2 > ok", "go 0 0:2 > keep 1")
        kept = copy.deepcopy(vars(desk))
        told = [desk.say(row) for row in LOOKS]
        self.assertEqual([desk.say(row) for row in LOOKS[::-1]], told[::-1])
        self.assertEqual(desk.say("go 0 0:2"), "keep 1")
        self.assertEqual(vars(desk), kept)

    def test_refusals_stand_straight_under_the_base(self):
        desk = Desk(2)
        for row in ["nothing", "out 0 0:1", "meet 0 0"]:
            with self.assertRaises(GoneError) as caught:
                desk.say(row)
            self.assertEqual(caught.exception.__class__.__bases__, (GoneError,))


def drawn_row(draw, world):
    """A row for a desk with this world: mostly one that can be said."""
    seats = [seat_text(seat) for seat, page in world[1]]
    sits = [seat_text(seat) for seat in books_in(world)]
    s, t, off = draw.choice(sits), draw.choice(sits), draw.choice(seats)
    one = next(page for seat, page in books_in(world).items() if seat_text(seat) == s)
    dots = ["0:1", *[dot_text(row[0]) for row in one[5] + one[6]]]
    dot, place = draw.choice(dots), draw.choice(["-", "-", *dots])
    letter = draw.choice([((0,), 0), *[letter[:2] for letter in world[2]]])
    name, value = draw.choice(["a", "fig"]), draw.randint(-9, 9)
    rows = {f"put {s} {place} {name} {value}": 8, f"out {s} {dot}": 4, f"tell {s}": 4,
            f"take {s} {seat_text(letter[0])} {letter[1]}": 8, f"go {s} {dot}": 4, f"bring {s}": len(seats) < 9,
            f"cut {s} {off}": 0.2, f"leave {s} {t}": 0.3, f"fall {s}": 0.1, f"meet {s} {t}": 4, "rounds": 1,
            f"shown {s}": 1, f"names {s} {place}": 1, f"row {s} {place}": 1, f"sum {s} {place} fig": 1, f"marks {s}": 1,
            f"alike {s} {t}": 1, f"state {dot}": 1, "gone": 1, "nothing": 0.2}
    return draw.choices(list(rows), list(rows.values()))[0]


def listed(texts, between=" "):
    return between.join(texts) or "-"


def seat_of(text):
    return tuple(int(number) for number in text.split("."))


def place_of(text):
    if text == "-":
        return ()
    seat, _, k = text.partition(":")
    return (seat_of(seat), int(k))


def view_again(world, word, rest):
    """The answer of a row that only looks."""
    books = books_in(world)
    if word == "state":
        return state_of(world, place_of(rest[0]))
    if word == "gone":
        return listed([dot_text(dot) for dot in gone_dots(world)])
    one = books[seat_of(rest[0])]
    if word == "shown":
        rows = [f"{dot_text(dot)} {dot_text(thing[0]) if thing[0] else '-'} {thing[1]} {thing[2]}" for dot, thing in
                shown(one)]
        return listed(rows, ", ")
    if word == "names":
        return listed(names_at(one, place_of(rest[1])))
    if word == "row":
        return listed([dot_text(dot) for dot in row_at(one, place_of(rest[1]))])
    if word == "sum":
        return str(sum_at(one, place_of(rest[1]), rest[2]))
    if word == "marks":
        return listed([dot_text(dot) for dot, acks in one[6]])
    return "yes" if are_alike(one, books[seat_of(rest[1])]) else "no"


def say_again(world, row):
    """[83] by another way, of rows that aren't refused with NoRow: (world, answer)."""
    word, *rest = row.split(" ")
    if word in ("state", "gone", "shown", "names", "row", "sum", "marks", "alike"):
        return world, view_again(world, word, rest)
    if word == "rounds":
        return walked(world, rounds(world)), "ok"
    seat = seat_of(rest[0])
    one = books_in(world)[seat]
    if word == "put":
        return done(world, ("put", seat, (place_of(rest[1]), rest[2], int(rest[3])))), f"{rest[0]}:{one[3] + 1}"
    if word == "tell":
        dots = tuple(sorted(dict(one[5] + one[6])))
        return done(world, ("tell", seat, dots)), str(one[2])
    if word == "take":
        name = (seat_of(rest[1]), int(rest[2]))
        behind = done(world, ("take", seat, name))
        letter = next(letter for letter in world[2] if letter[:2] == name)
        return behind, "passed" if is_passed(one, letter) else "ok"
    if word == "go":
        dot = place_of(rest[1])
        if dot in dict(one[6]) and lacking(one, dot):
            return world, "keep " + " ".join(seat_text(z) for z in lacking(one, dot))
        return done(world, ("go", seat, dot, paper_for(one, dot))), "ok"
    if word == "bring":
        return done(world, ("bring", seat)), f"{rest[0]}.{one[4] + 1}"
    if word == "out":
        return done(world, ("out", seat, place_of(rest[1]))), "ok"
    if word == "meet":
        return walked(world, meeting(world, seat, seat_of(rest[1]))), "ok"
    return done(world, (word, seat, *[seat_of(other) for other in rest[1:]])), "ok"


class Long(Case):
    def outcome(self, ask, *handed):
        try:
            return ask(*handed)
        except GoneError as refusal:
            return (refusal.__class__, vars(refusal))

    def follow(self, number, rows):
        """A drawn talk, beside a world that is led by the deeds themselves: what was told, as words."""
        draw = random.Random(number)
        desk, world = Desk(2 + number % 3), first_world(2 + number % 3)
        words, gone = {}, set()
        for k in range(rows):
            if not books_in(world):
                break
            row = drawn_row(draw, world)
            told = self.outcome(desk.say, row)
            wanted = (NoRow, {"row": row}) if row == "nothing" else self.outcome(say_again, world, row)
            if isinstance(wanted[1], str):
                world, wanted = wanted
            self.assertEqual(told, wanted, row)
            if row == "rounds" and told == "ok":
                self.assertEqual([one[6] for one in books_in(world).values()], [()] * len(books_in(world)))
            if row.startswith("meet") and told == "ok":
                self.assertEqual(desk.say("alike" + row[4:]), "yes")
            if k % 5 == 0:
                self.assertEqual(desk.say("check"), "yes")
                now = set(desk.say("gone").split(" ")) - {"-"}
                self.assertLessEqual(gone, now)
                gone = now
            words[row.split(" ")[0]] = words.get(row.split(" ")[0], 0) + isinstance(told, str)
        self.assertIs(lets_world(world), True)
        return words

    def test_drawn_talks(self):
        words = {}
        for number in range(24):
            for word, many in self.follow(number, 80).items():
                words[word] = words.get(word, 0) + many
        self.assertEqual(words.pop("nothing"), 0)
        self.assertEqual(len(words), 19)
        self.assertGreater(min(words.values()), 0)

    def test_a_long_talk(self):
        """The told desk's world outgrows the bounds of what is handed in."""
        self.follow(99, 400)


if __name__ == "__main__":
    unittest.main()
