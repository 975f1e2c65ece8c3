"""Meetings and rounds: [77], [78]."""

import copy
import itertools
import unittest

from gonemarks.alike import are_alike, missing
from gonemarks.deeds import done, is_deed, walked
from gonemarks.errors import NoMeeting
from gonemarks.gochecker import lets_go
from gonemarks.meetings import meeting, rounds
from gonemarks.worldchecker import lets_world
from gonemarks.worlds import first_world
from tests.steps import STEPS, some_worlds
from tests.walks import books_in, counts_in, is_over, spoiled_worlds
from tests.test_whole_deeds import is_let_by

A, B, C = ((0,), 1), ((0,), 2), ((1,), 1)
THING, OTHER = ((), "a", 1), ((), "b", 2)


def is_cut_or_fall(deed):
    return deed is not None and deed[0] in ("cut", "fall")


class Case(unittest.TestCase):
    def refused(self, word, ask, *handed):
        kept = copy.deepcopy(handed)
        for _ in range(2):
            with self.assertRaises(NoMeeting) as caught:
                ask(*handed)
            self.assertEqual(caught.exception.word, word)
        self.assertEqual(handed, kept)

    def told(self, ask, *handed):
        kept = copy.deepcopy(handed)
        told = ask(*handed)
        self.assertEqual(ask(*handed), told)
        self.assertEqual(handed, kept)
        self.assertIs(told.__class__, tuple)
        self.assertTrue(all(is_deed(deed) for deed in told))
        return told


class Meetings(Case):
    def test_in_a_first_world(self):
        self.assertEqual(self.told(meeting, first_world(2), (0,), (1,)), (
            ("tell", (0,), ()), ("take", (1,), ((0,), 0)), ("tell", (1,), ()), ("take", (0,), ((1,), 0))))
        self.assertEqual(self.told(meeting, first_world(3), (2,), (1,)), (
            ("tell", (2,), ()), ("take", (1,), ((2,), 0)), ("tell", (1,), ()), ("take", (2,), ((1,), 0))))

    def test_all_dots_rising_and_the_letters_numbers(self):
        """(0,) marks A and holds B, (1,) holds A and C; (0,) wrote two letters, (1,) one."""
        world = walked(first_world(2), (
            ("put", (0,), THING), ("put", (0,), OTHER), ("tell", (0,), (A,)), ("tell", (0,), ()),
            ("take", (1,), ((0,), 0)), ("out", (0,), A), ("put", (1,), THING), ("tell", (1,), ())))
        self.assertEqual(self.told(meeting, world, (0,), (1,)), (
            ("tell", (0,), (A, B)), ("take", (1,), ((0,), 2)), ("tell", (1,), (A, B, C)), ("take", (0,), ((1,), 1))))
        self.assertEqual(self.told(meeting, world, (1,), (0,)), (
            ("tell", (1,), (A, C)), ("take", (0,), ((1,), 1)), ("tell", (0,), (A, B, C)), ("take", (1,), ((0,), 2))))
        behind = books_in(walked(world, meeting(world, (0,), (1,))))
        self.assertEqual(behind[(0,)][5], ((B, OTHER), (C, THING)))
        self.assertEqual(behind[(1,)][5], behind[(0,)][5])

    def test_who_doesnt_sit(self):
        world = walked(first_world(3), (("bring", (0,)), ("fall", (2,)), ("leave", (0, 1), (0,))))
        for other in [(2,), (0, 1), (3,), (0, 2), (1, 1)]:
            self.refused("sits", meeting, world, (0,), other)
            self.refused("sits", meeting, world, other, (0,))
            self.refused("sits", meeting, world, other, other)
        for seat in [(0,), (1,)]:
            self.refused("sits", meeting, world, seat, seat)

    def test_who_passes_over(self):
        world = walked(first_world(3), (("cut", (0,), (1,)), ("bring", (1,))))
        self.refused("over", meeting, world, (0,), (1,))
        self.refused("over", meeting, world, (1,), (0,))
        self.refused("over", meeting, world, (0,), (1, 1))
        self.refused("over", meeting, world, (1, 1), (0,))
        self.told(meeting, world, (0,), (2,))
        self.told(meeting, world, (1, 1), (1,))

    def test_sits_goes_ahead_of_over(self):
        world = walked(first_world(2), (("cut", (0,), (1,)), ("fall", (1,))))
        self.refused("sits", meeting, world, (0,), (1,))
        self.refused("sits", meeting, world, (1,), (0,))

    def wanted(self, world, x, y):
        rows = []
        for one, other in [(x, y), (y, x)]:
            book = books_in(world)[one]
            deeds = (("tell", one, tuple(sorted([row[0] for row in book[5] + book[6]]))),
                     ("take", other, (one, book[2])))
            world = walked(world, deeds)
            rows.extend(deeds)
        return tuple(rows), world

    def test_drawn_worlds(self):
        met = 0
        for world in some_worlds(6):
            books = books_in(world)
            for x, y in itertools.product(books, repeat=2):
                if x == y:
                    self.refused("sits", meeting, world, x, y)
                elif is_over(books[x], y) or is_over(books[y], x):
                    self.refused("over", meeting, world, x, y)
                else:
                    row, behind = self.wanted(world, x, y)
                    self.assertEqual(meeting(world, x, y), row)
                    self.alike_behind(world, behind, x, y)
                    met += 1
        self.assertGreater(met, 300)

    def alike_behind(self, world, behind, x, y):
        books = books_in(behind)
        self.assertIs(are_alike(books[x], books[y]), True)
        self.assertEqual(missing(books[x], books[y]), ((), ()))
        self.assertEqual(missing(books[y], books[x]), ((), ()))
        for seat, page in world[1]:
            if seat not in (x, y):
                self.assertEqual(dict(behind[1])[seat], page)


class Rounds(Case):
    def check(self, world):
        """The told row leads to where no mark is left; the world there."""
        row = self.told(rounds, world)
        sits = books_in(world)
        tells = [deed for deed in row if deed[0] == "tell"]
        self.assertLessEqual({deed[0] for deed in row}, {"tell", "take", "go"})
        self.assertLessEqual(len(tells), 6 * (len(sits) - 1) if sits else 0)
        for deed in row:
            if deed[0] == "go":
                self.assertIs(lets_go(books_in(world)[deed[1]], deed[2], deed[3]), True)
            world = done(world, deed)
        self.assertEqual([one[6] for one in books_in(world).values()], [()] * len(sits))
        self.assertIs(lets_world(world), True)
        return world

    def test_first_worlds(self):
        for roots in range(1, 5):
            self.check(first_world(roots))

    def test_one_seat(self):
        world = walked(first_world(1), (("put", (0,), THING), ("put", (0,), OTHER), ("out", (0,), A)))
        behind = self.check(world)
        self.assertEqual([deed[0] for deed in rounds(world)], ["go"])
        self.assertEqual(books_in(behind)[(0,)][5], ((B, OTHER),))

    def test_several(self):
        """Marks of several seats, of things that others hold still."""
        world = walked(first_world(4), (
            ("put", (0,), THING), ("put", (0,), OTHER), ("tell", (0,), (A, B)), ("take", (1,), ((0,), 0)),
            ("take", (3,), ((0,), 0)), ("out", (3,), A), ("put", (1,), THING), ("out", (1,), B), ("out", (1,), C)))
        behind = self.check(world)
        self.assertEqual([one[5] for one in books_in(behind).values()], [()] * 4)

    def test_children(self):
        world = walked(first_world(2), (
            ("put", (0,), THING), ("bring", (0,)), ("bring", (0, 1)), ("out", (0, 1), A), ("bring", (0, 1)),
            ("put", (0, 1), OTHER), ("bring", (1,))))
        behind = self.check(world)
        self.assertEqual({one[5] for one in books_in(behind).values()}, {((((0, 1), 1), OTHER),)})

    def test_seats_that_left(self):
        world = walked(first_world(3), (
            ("put", (0,), THING), ("bring", (0,)), ("out", (0,), A), ("leave", (0,), (2,)), ("bring", (1,)),
            ("leave", (1,), (1, 1))))
        self.assertEqual(sorted(books_in(world)), [(0, 1), (1, 1), (2,)])
        self.check(world)

    def test_the_left_of_one_who_left(self):
        """(1,) told (2,) that (0,) left, by leaving itself."""
        world = walked(first_world(3), (("put", (2,), THING), ("out", (2,), ((2,), 1)), ("leave", (0,), (1,)),
                                        ("leave", (1,), (2,))))
        self.check(world)

    def test_seats_passed_over_by_all(self):
        world = walked(first_world(3), (("put", (0,), THING), ("out", (0,), A), ("fall", (2,))))
        self.refused("off", rounds, world)
        world = done(world, ("cut", (0,), (2,)))
        self.refused("off", rounds, world)
        self.check(done(world, ("cut", (1,), (2,))))

    def test_a_child_passed_over_by_its_parents_cut(self):
        """(1, 1) is unknown to (0,), which cut (1,): it is passed over, too, though no cut names it."""
        world = walked(first_world(2), (("bring", (1,)), ("put", (0,), THING), ("out", (0,), A), ("cut", (0,), (1,)),
                                        ("fall", (1,)), ("fall", (1, 1))))
        self.check(world)

    def test_some_left_and_some_are_cut(self):
        world = walked(first_world(4), (
            ("put", (0,), THING), ("out", (0,), A), ("leave", (3,), (1,)), ("fall", (2,)), ("cut", (0,), (2,)),
            ("cut", (1,), (2,))))
        self.check(world)

    def test_nobody_sits(self):
        world = walked(first_world(2), (("put", (0,), THING), ("tell", (0,), (A,)), ("fall", (0,)), ("fall", (1,))))
        self.assertEqual(self.told(rounds, world), ())

    def test_a_cut_between_two_that_sit(self):
        world = done(first_world(3), ("cut", (2,), (0,)))
        self.refused("cut", rounds, world)
        self.refused("cut", rounds, done(world, ("bring", (0,))))
        self.check(walked(world, (("leave", (2,), (1,)),)))

    def test_cut_goes_ahead_of_off(self):
        world = walked(first_world(3), (("fall", (1,)), ("cut", (2,), (0,))))
        self.refused("cut", rounds, world)
        self.refused("off", rounds, walked(first_world(3), (("fall", (1,)),)))

    def test_no_mark_is_there_but_seats_are_off(self):
        """The refusals don't hang on marks."""
        self.refused("off", rounds, done(first_world(2), ("fall", (0,))))

    def outcome(self, world):
        books = books_in(world)
        if any(is_over(one, z) for one in books.values() for z in books):
            return "cut"
        for seat in counts_in(world):
            if seat not in books and not any(seat in [row[0] for row in one[9]] for one in books.values()):
                if not all(is_over(one, seat) for one in books.values()):
                    return "off"
        return "told"

    def drawn(self, worlds):
        outcomes = {"cut": 0, "off": 0, "told": 0}
        for world in worlds:
            word = self.outcome(world)
            outcomes[word] += 1
            if word == "told":
                self.check(world)
            else:
                self.refused(word, rounds, world)
        return outcomes

    def test_drawn_worlds(self):
        self.assertGreater(min(self.drawn(some_worlds(6)).values()), 20)

    def test_without_cuts_and_falls_it_is_never_refused(self):
        many = 0
        for rows in STEPS:
            worlds = [world for deed, world in itertools.takewhile(lambda row: not is_cut_or_fall(row[0]), rows)]
            for world in worlds[-1::-8]:
                self.check(world)
                many += any(one[6] for one in books_in(world).values())
        self.assertGreater(many, 50)

    def test_bent_worlds_that_are_let_by(self):
        worlds = [world for number in range(60) for world in spoiled_worlds(number, 12) if is_let_by(world)]
        self.assertGreater(min(self.drawn(worlds).values()), 10)


if __name__ == "__main__":
    unittest.main()
