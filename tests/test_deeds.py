"""Deeds: [60], [61], [63]."""

import copy
import random
import unittest

from gonemarks.deeds import done, is_deed, walked
from gonemarks.errors import GoneError, NoDeed, NoPaper
from gonemarks.worldchecker import lets_world
from gonemarks.worlds import first_world
from tests.samples import FORTY, ODD, book, spoiled
from tests.steps import STEPS, done_again, each_step, some_worlds
from tests.walks import books_in, counts_in, dots_in

A, B, C = ((0,), 1), ((0,), 2), ((1,), 1)
THING, OTHER = ((), "a", 1), ((), "b", 2)
PAPER = (((0,), "has", 0, 0), ((1,), "left", 3, 1), ((1, 1), "cut", 0, 2))

DEEDS = [
    ("put", (0,), THING),
    ("put", (0, 2, 99), (((1,), 4), "zzzzzzzz", -999)),
    ("out", (1,), A),
    ("out", (1,), ((3, 1, 1, 1, 1), FORTY)),
    ("tell", (0,), ()),
    ("tell", (0, 1), (B, A, B)),
    ("take", (0,), ((1,), 0)),
    ("take", (0,), ((0,), FORTY)),
    ("go", (0,), A, ()),
    ("go", (0,), A, PAPER),
    ("bring", (3,)),
    ("cut", (0,), (1, 1)),
    ("cut", (0,), (0,)),
    ("leave", (0, 1), (0,)),
    ("leave", (0,), (0,)),
    ("fall", (2, 1, 1, 1, 1)),
    ("drop", (0,), C),
]

WORDS = ["put", "out", "tell", "take", "go", "bring", "cut", "leave", "fall", "drop"]


class Kinds(unittest.TestCase):
    def check(self, thing, truth):
        kept = copy.deepcopy(thing)
        for _ in range(2):
            self.assertIs(is_deed(thing), truth, thing)
        self.assertEqual(thing, kept)

    def test_each_word(self):
        self.assertEqual({deed[0] for deed in DEEDS}, set(WORDS))
        for deed in DEEDS:
            self.check(deed, True)

    def test_bent_at_each_place(self):
        for deed in DEEDS:
            for thing in spoiled(deed):
                self.check(thing, False)

    def test_words_exchanged(self):
        kin = [("bring", "fall"), ("cut", "leave"), ("out", "drop")]
        for deed in DEEDS:
            for word in WORDS:
                same = word == deed[0] or (word, deed[0]) in kin or (deed[0], word) in kin
                # The name of a letter with a number from 1 on, and a dot, are of the same shape.
                alike = {word, deed[0]} <= {"out", "drop", "take"} and deed[2][1] > 0
                self.check((word,) + deed[1:], same or alike)
            for word in ["", "Put", "put ", "puts", "has", "rounds", None, True, 0, (), ("put",), ["put"]]:
                self.check((word,) + deed[1:], False)

    def test_too_few_and_too_many(self):
        for deed in DEEDS:
            for size in range(len(deed)):
                self.check(deed[:size], False)
                self.check(deed[size + 1:], False)
            for more in [(), None, (0,), A, PAPER, 0, "a", []]:
                self.check(deed + (more,), False)
        self.check(("go", (0,), A), False)
        self.check(("bring", (0,), (1,)), False)
        self.check(("fall", (0,), 1), False)

    def test_lists_for_tuples(self):
        for thing in [["bring", (0,)], ("bring", [0]), ("tell", (0,), []), ("tell", (0,), [A]), ("tell", (0,), ([A],)),
                      ("tell", (0,), (list(A),)), ("take", (0,), [(1,), 0]), ("take", (0,), ([1], 0)),
                      ("go", (0,), A, []), ("go", (0,), A, (list(PAPER[0]),)), ("go", (0,), list(A), PAPER),
                      ("put", (0,), list(THING)), ("put", (0,), ([], "a", 1)), ("cut", (0,), [1]),
                      ("leave", (0,), [1]), ("drop", (0,), [(0,), 1])]:
            self.check(thing, False)

    def test_truths_for_numbers(self):
        for thing in [("bring", (False,)), ("bring", (0, True)), ("put", (0,), ((), "a", True)),
                      ("out", (0,), ((0,), True)), ("tell", (0,), (((0,), True),)), ("take", (0,), ((0,), False)),
                      ("take", (0,), ((0,), True)), ("go", (0,), A, (((0,), "has", False, 0),)),
                      ("go", (0,), A, (((0,), "has", 0, False),)), ("cut", (0,), (True,)), ("leave", (0,), (False,)),
                      ("fall", (True,)), ("drop", (0,), ((True,), 1))]:
            self.check(thing, False)

    def test_numbers_out_of_bounds(self):
        for thing in [("out", (0,), ((0,), 0)), ("drop", (0,), ((0,), -1)), ("take", (0,), ((0,), -1)),
                      ("tell", (0,), (A, ((0,), 0))), ("put", (0,), ((), "a", 1000)), ("put", (0,), ((), "a", -1000)),
                      ("put", (0,), ((), "", 1)), ("put", (0,), ((), "abcdefghi", 1)), ("put", (0,), ((), "A", 1)),
                      ("put", (0,), (((0,), 0), "a", 1)), ("bring", (4,)), ("bring", (-1,)), ("bring", (0, 0)),
                      ("bring", (0, 100)), ("bring", ()), ("bring", (0, 1, 1, 1, 1, 1)), ("cut", (0,), (4,)),
                      ("leave", (0,), ()), ("fall", (0, FORTY))]:
            self.check(thing, False)

    def test_papers_that_are_none(self):
        rows = PAPER
        for paper in [rows[::-1], rows + rows[-1:], (rows[0][:3],), (rows[0] + (0,),), (((0,), "had", 0, 0),),
                      (((0,), "cut", 1, 0),), (((0,), "has", -1, 0),), (((0,), "has", 0, 100),), rows[0], None, "",
                      (((0, 1, 1, 1, 1), "has", 0, 1),), ((),), (None,), 0, True]:
            self.check(("go", (0,), A, paper), False)

    def test_things_of_other_kinds(self):
        for thing in [*ODD, *WORDS, ("put",), ("bring", (0,), None), (("bring", (0,)),), [("bring", (0,))]]:
            self.check(thing, False)


def world_of(roots, *pages):
    """A world by hand: books and (seat, counts) of its seats, then its letters."""
    seats = [(page[0], page) if len(page) == 10 else page for page in pages if len(page) != 5]
    return (roots, tuple(seats), tuple(page for page in pages if len(page) == 5))


class Case(unittest.TestCase):
    def behind(self, world, deed):
        self.assertIs(is_deed(deed), True)
        kept = copy.deepcopy((world, deed))
        told = done(world, deed)
        self.assertEqual(done(world, deed), told)
        self.assertEqual((world, deed), kept)
        return told

    def refused(self, word, world, deed):
        self.assertIs(is_deed(deed), True)
        kept = copy.deepcopy((world, deed))
        for _ in range(2):
            with self.assertRaises(NoDeed) as caught:
                done(world, deed)
            self.assertEqual(caught.exception.word, word, deed)
        self.assertEqual((world, deed), kept)

    def no_paper(self, word, place, world, deed):
        self.assertIs(is_deed(deed), True)
        with self.assertRaises(NoPaper) as caught:
            done(world, deed)
        self.assertEqual((caught.exception.word, caught.exception.place), (word, place))


class EachDeed(Case):
    def setUp(self):
        """(0,) holds A and marks B, (1,) holds B still and has written a letter, (1, 1) left by (1,), (2,) fell."""
        self.one = book((0,), 3, 1, 2, 0, ((A, THING),), ((B, (((0,), 1, 0),)),))
        self.other = book((1,), 3, 1, 1, 1, ((B, OTHER), (C, (B, "c", 3))), lefts=(((1, 1), 1, 0),))
        self.told = ((0,), 0, ((A, THING), (B, OTHER)), (), ())
        self.second = ((1,), 0, ((C, (B, "c", 3)),), (), (((1, 1), 1, 0),))
        self.last = ((1, 1), 0, (), (), ())
        self.letters = (self.told, self.second, self.last)
        self.world = self.made(self.one, self.other)

    def made(self, one, other, *more, letters=None):
        rest = [((1, 1), (1, 0, 0)), *more, ((2,), (0, 0, 0))]
        return world_of(3, one, other, *rest, *(self.letters if letters is None else letters))

    def test_the_world_is_right(self):
        self.assertIs(lets_world(self.world), True)

    def test_a_seat_that_doesnt_sit(self):
        for seat in [(1, 1), (2,), (3,), (0, 1), (1, 2)]:
            for deed in [("put", seat, THING), ("put", seat, (A, "a", 1)), ("out", seat, A), ("out", seat, ((3,), 9)),
                         ("tell", seat, ()), ("tell", seat, (((3,), 1),)), ("take", seat, ((0,), 0)),
                         ("take", seat, ((0,), 9)), ("go", seat, B, PAPER), ("go", seat, A, ()), ("bring", seat),
                         ("cut", seat, seat), ("cut", seat, (3, 3)), ("leave", seat, (0,)), ("leave", seat, seat),
                         ("leave", seat, (2,)), ("fall", seat), ("drop", seat, A), ("drop", seat, B)]:
                self.refused("seat", self.world, deed)

    def test_put(self):
        one = book((0,), 3, 1, 3, 0, ((A, THING), (((0,), 3), (A, "d", -4))), self.one[6])
        self.assertEqual(self.behind(self.world, ("put", (0,), (A, "d", -4))), self.made(one, self.other))
        self.refused("within", self.world, ("put", (0,), (B, "d", 1)))
        self.refused("within", self.world, ("put", (0,), (C, "d", 1)))
        self.refused("within", self.world, ("put", (0,), (((0,), 3), "d", 1)))

    def test_out(self):
        ack = ((1,), 1, 1)
        other = book((1,), 3, 1, 1, 1, (), ((B, (ack,)), (C, (ack,))), lefts=self.other[9])
        self.assertEqual(self.behind(self.world, ("out", (1,), B)), self.made(self.one, other))
        for dot in [B, C, ((0,), 3)]:
            self.refused("held", self.world, ("out", (0,), dot))

    def test_tell(self):
        one = book((0,), 3, 2, 2, 0, self.one[5], self.one[6])
        letter = ((0,), 1, ((A, THING),), ((B, (((0,), 1, 0),)),), ())
        wanted = self.made(one, self.other, letters=(self.told, letter, self.second, self.last))
        self.assertEqual(self.behind(self.world, ("tell", (0,), (B, A, B))), wanted)
        letter = ((0,), 1, (), (), ())
        wanted = self.made(one, self.other, letters=(self.told, letter, self.second, self.last))
        self.assertEqual(self.behind(self.world, ("tell", (0,), ())), wanted)
        self.refused("dot", self.world, ("tell", (0,), (A, C)))
        self.refused("dot", self.world, ("tell", (0,), (((3,), 1), A)))

    def test_take(self):
        one = book((0,), 3, 1, 2, 0, ((A, THING), (C, (B, "c", 3))), self.one[6], lefts=(((1, 1), 1, 0),))
        self.assertEqual(self.behind(self.world, ("take", (0,), ((1,), 0))), self.made(one, self.other))
        other = book((1,), 3, 1, 1, 1, ((A, THING), *self.other[5]), lefts=self.other[9])
        self.assertEqual(self.behind(self.world, ("take", (1,), ((0,), 0))), self.made(self.one, other))

    def test_a_take_that_turns_nothing(self):
        """Of its own letter, of one that tells nothing, of one that is cut, of one below a fence."""
        for deed in [("take", (0,), ((0,), 0)), ("take", (0,), ((1, 1), 0)), ("take", (1,), ((1, 1), 0))]:
            self.assertEqual(self.behind(self.world, deed), self.world)
        world = done(self.world, ("cut", (0,), (1,)))
        self.assertEqual(self.behind(world, ("take", (0,), ((1,), 0))), world)
        fenced = self.made(self.one, self.other[:7] + ((((0,), 1),),) + self.other[8:])
        self.assertIs(lets_world(fenced), True)
        self.assertEqual(self.behind(fenced, ("take", (1,), ((0,), 0))), fenced)

    def test_a_take_of_no_letter(self):
        for name in [((0,), 1), ((1,), 1), ((1,), FORTY), ((2,), 0), ((3,), 0), ((0, 1), 0)]:
            self.refused("letter", self.world, ("take", (0,), name))

    def test_bring(self):
        one = self.one[:4] + (1,) + self.one[5:]
        child = book((0, 1), 3, 0, 0, 0, self.one[5], ((B, (((0,), 1, 0), ((0, 1), 0, 0))),), (((0,), 1),))
        wanted = world_of(3, one, child, self.other, ((1, 1), (1, 0, 0)), ((2,), (0, 0, 0)), *self.letters)
        self.assertEqual(self.behind(self.world, ("bring", (0,))), wanted)
        world = done(self.world, ("bring", (1,)))
        self.assertEqual([seat for seat, page in world[1]], [(0,), (1,), (1, 1), (1, 2), (2,)])

    def test_bring_refused(self):
        world = first_world(1)
        for seat in [(0,), (0, 1), (0, 1, 1), (0, 1, 1, 1)]:
            world = done(world, ("bring", seat))
        self.refused("deep", world, ("bring", (0, 1, 1, 1, 1)))
        for _ in range(98):
            world = done(world, ("bring", (0,)))
        self.refused("many", world, ("bring", (0,)))
        self.assertIs(lets_world(world), True)

    def test_cut(self):
        other = self.other[:8] + ((((0,), 0),),) + self.other[9:]
        self.assertEqual(self.behind(self.world, ("cut", (1,), (0,))), self.made(self.one, other))
        other = self.other[:8] + ((((1, 1), 0),),) + self.other[9:]
        self.assertEqual(self.behind(self.world, ("cut", (1,), (1, 1))), self.made(self.one, other))
        self.refused("seat", self.world, ("cut", (0,), (1, 1)))
        self.refused("seat", self.world, ("cut", (0,), (3,)))
        self.refused("own", self.world, ("cut", (0,), (0,)))
        self.refused("again", done(self.world, ("cut", (0,), (2,))), ("cut", (0,), (2,)))

    def test_leave(self):
        letter = ((1,), 1, self.other[5], (), self.other[9])
        lefts = (((1,), 2, 1), ((1, 1), 1, 0))
        one = book((0,), 3, 1, 2, 0, ((A, THING), (C, (B, "c", 3))), self.one[6], lefts=lefts)
        wanted = self.made(one, ((1,), (2, 1, 1)), letters=(self.told, self.second, letter, self.last))
        self.assertEqual(self.behind(self.world, ("leave", (1,), (0,))), wanted)
        self.assertIs(lets_world(wanted), True)

    def test_leave_refused(self):
        for other in [(2,), (1, 1), (3,), (0, 1)]:
            self.refused("other", self.world, ("leave", (0,), other))
        self.refused("own", self.world, ("leave", (0,), (0,)))
        world = done(self.world, ("cut", (0,), (1,)))
        self.refused("over", world, ("leave", (1,), (0,)))
        self.assertEqual(counts_in(done(world, ("leave", (0,), (1,))))[(0,)], (2, 2, 0))

    def test_fall(self):
        self.assertEqual(self.behind(self.world, ("fall", (0,))), self.made(((0,), (1, 2, 0)), self.other))
        self.assertEqual(self.behind(self.world, ("fall", (1,))), self.made(self.one, ((1,), (1, 1, 1))))
        nobody = walked(self.world, (("fall", (0,)), ("fall", (1,))))
        self.assertEqual(books_in(nobody), {})
        self.assertIs(lets_world(nobody), True)

    def test_drop(self):
        one = book((0,), 3, 1, 2, 0, ((A, THING),))
        self.assertEqual(self.behind(self.world, ("drop", (0,), B)), self.made(one, self.other))
        for dot in [A, C, ((0,), 3), ((3,), 1)]:
            self.refused("mark", self.world, ("drop", (0,), dot))
        self.refused("mark", self.world, ("drop", (1,), B))

    def test_behind_a_drop_deeds_go_on(self):
        """The thing comes back: (1,) tells it, (0,) takes it, tells it, and takes it out again."""
        row = (("drop", (0,), B), ("tell", (1,), (B,)), ("take", (0,), ((1,), 1)))
        world = walked(self.world, row)
        self.assertEqual(books_in(world)[(0,)][5], ((A, THING), (B, OTHER)))
        world = walked(world, (("tell", (0,), (A, B)), ("out", (0,), B), ("bring", (0,)), ("leave", (0,), (1,))))
        self.assertEqual(dict(books_in(world)[(1,)][6])[B], (((0,), 2, 0), ((1,), 2, 1)))


class Going(Case):
    def setUp(self):
        self.world = walked(first_world(2), (
            ("put", (0,), THING), ("tell", (0,), (A,)), ("take", (1,), ((0,), 0)), ("out", (1,), A),
            ("tell", (1,), (A,)), ("take", (0,), ((1,), 0))))
        self.paper = (((0,), "has", 1, 0), ((1,), "has", 0, 0))

    def test_go(self):
        self.assertEqual(books_in(self.world)[(0,)][6], ((A, (((0,), 1, 0), ((1,), 0, 0))),))
        told = self.behind(self.world, ("go", (0,), A, self.paper))
        self.assertEqual(books_in(told), {(0,): book((0,), 2, 1, 1), (1,): books_in(self.world)[(1,)]})
        self.assertEqual(told[2], self.world[2])
        world = walked(self.world, (("tell", (0,), (A,)), ("take", (1,), ((0,), 1))))
        told = self.behind(world, ("go", (1,), A, self.paper))
        self.assertEqual(books_in(told)[(1,)], book((1,), 2, 1, fences=(((0,), 1),)))

    def test_refusals(self):
        for dot in [B, C, ((0, 1), 1)]:
            self.refused("mark", self.world, ("go", (0,), dot, self.paper))
            self.refused("mark", self.world, ("go", (0,), dot, ()))
        self.no_paper("root", 0, self.world, ("go", (0,), A, ()))
        self.no_paper("root", 1, self.world, ("go", (0,), A, self.paper[:1]))
        self.no_paper("row", 1, self.world, ("go", (0,), A, (self.paper[0], ((1,), "has", 1, 0))))
        self.no_paper("row", 0, self.world, ("go", (0,), A, (((0,), "left", 1, 0), ((1,), "left", 0, 0))))
        self.no_paper("row", 1, self.world, ("go", (1,), A, (((1,), "has", 0, 0), ((1, 1), "cut", 0, 0))))
        world = walked(self.world, (("bring", (1,)), ("cut", (0,), (1,))))
        self.assertEqual(books_in(world)[(0,)][8], (((1,), 0),))
        self.behind(world, ("go", (0,), A, (((0,), "has", 1, 0), ((1,), "cut", 0, 0))))

    def test_a_child_lacks(self):
        world = walked(first_world(1), (("put", (0,), THING), ("bring", (0,)), ("out", (0,), A)))
        self.no_paper("child", 0, world, ("go", (0,), A, (((0,), "has", 0, 1),)))


class Drawn(Case):
    def test_each_deed_is_done_as_another_way_does_it(self):
        words = set()
        for deed, ahead, behind in each_step():
            self.assertIs(is_deed(deed), True)
            self.assertEqual(done(ahead, deed), behind)
            self.assertEqual(done_again(ahead, deed), behind)
            words.add(deed[0])
        self.assertEqual(words, set(WORDS) - {"drop"})

    def drawn(self, draw, world):
        """A deed in this world, whether it can be done or not."""
        seat, other = draw.choice(world[1])[0], draw.choice([*[entry[0] for entry in world[1]], (3, 1)])
        dots = [*dots_in(world), ((0,), 99)]
        dot = draw.choice(dots)
        word = draw.choice(WORDS)
        number = draw.randint(0, 3)
        whats = {"put": [(draw.choice([(), dot]), "a", 1)], "tell": [tuple(draw.choices(dots, k=draw.randint(0, 2)))],
                 "take": [(other, number)], "go": [dot, (((0,), "has", number, 0),)], "cut": [other],
                 "leave": [other], "bring": [], "fall": []}
        return (word, seat, *whats.get(word, [dot]))

    def outcome(self, ask, *handed):
        try:
            return ask(*handed)
        except GoneError as refusal:
            return (refusal.__class__, vars(refusal))

    def test_deeds_that_may_be_refused(self):
        draw = random.Random(7)
        refusals = set()
        for world in some_worlds(5):
            for _ in range(12):
                deed = self.drawn(draw, world)
                kept = copy.deepcopy(world)
                told = self.outcome(done, world, deed)
                self.assertEqual(told, self.outcome(done_again, world, deed), deed)
                self.assertEqual(world, kept)
                if len(told) == 2:
                    refusals.add((deed[0], told[1]["word"]))
        self.assertGreater(len(refusals), 20)

    def test_seats_and_letters_stay_rising(self):
        for deed, ahead, behind in each_step():
            seats = [entry[0] for entry in behind[1]]
            names = [letter[:2] for letter in behind[2]]
            self.assertEqual((seats, names), (sorted(set(seats)), sorted(set(names))))

    def test_letters_stay(self):
        for deed, ahead, behind in each_step():
            new = [letter for letter in behind[2] if letter not in ahead[2]]
            self.assertLessEqual(set(ahead[2]), set(behind[2]))
            self.assertEqual(len(new), 1 if deed[0] in ("tell", "leave") else 0)

    def test_other_books_stay(self):
        for deed, ahead, behind in each_step():
            turned = {deed[1], deed[2] if deed[0] == "leave" else deed[1]}
            for seat, page in ahead[1]:
                if seat not in turned:
                    self.assertEqual(dict(behind[1])[seat], page)


class Walking(Case):
    def test_no_deed(self):
        for world in some_worlds(20):
            self.assertEqual(walked(world, ()), world)

    def test_one_and_many(self):
        for rows in STEPS[:60]:
            row = tuple(deed for deed, world in rows[1:])
            kept = copy.deepcopy((rows[0][1], row))
            for size in (1, len(row) // 2, len(row)):
                self.assertEqual(walked(rows[0][1], row[:size]), rows[size][1])
            self.assertEqual((rows[0][1], row), kept)

    def test_a_row_parted_anywhere(self):
        for rows in STEPS[:12]:
            row = tuple(deed for deed, world in rows[1:])
            for size in range(len(row) + 1):
                self.assertEqual(walked(walked(rows[0][1], row[:size]), row[size:]), rows[-1][1])

    def test_the_first_refusal_is_told(self):
        world = first_world(2)
        bad = [("seat", ("bring", (2,))), ("held", ("out", (0,), C)), ("letter", ("take", (0,), ((1,), 5))),
               ("own", ("cut", (0,), (0,))), ("mark", ("drop", (0,), A)), ("dot", ("tell", (1,), (A,)))]
        for word, first in bad:
            for other, second in bad:
                for row in [(first, second), (("put", (0,), THING), first, ("tell", (0,), (A,)), second),
                            (("bring", (0,)), first)]:
                    kept = copy.deepcopy(world)
                    with self.assertRaises(NoDeed) as caught:
                        walked(world, row)
                    self.assertEqual(caught.exception.word, word)
                    self.assertEqual(world, kept)

    def test_papers_are_refused_in_a_row(self):
        row = (("put", (0,), THING), ("out", (0,), A), ("go", (0,), A, ()), ("fall", (3,)))
        with self.assertRaises(NoPaper) as caught:
            walked(first_world(2), row)
        self.assertEqual((caught.exception.word, caught.exception.place), ("root", 0))


if __name__ == "__main__":
    unittest.main()
