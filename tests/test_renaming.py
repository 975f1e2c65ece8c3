"""Worlds and deeds with their roots in another order: [65]."""

import copy
import itertools
import random
import unittest

from gonemarks.alldeeds import deeds_from
from gonemarks.deeds import done, is_deed
from gonemarks.errors import GoneError
from gonemarks.renaming import deed_turned, world_turned
from gonemarks.shields import shielded
from gonemarks.worldchecker import lets_world
from gonemarks.worlds import first_world, is_world
from tests.samples import book
from tests.steps import each_step, some_worlds
from tests.walks import dots_in

THING = ((), "a", 1)


def back(order):
    return tuple(order.index(root) for root in range(len(order)))


def orders_of(world):
    return list(itertools.permutations(range(world[0])))


def exchanged(thing, order):
    """Seats, dots and withins of a deed or row turned, wherever they stand, by their looks alone; nothing is sorted."""
    if not isinstance(thing, tuple):
        return thing
    if thing and all(isinstance(number, int) for number in thing):
        return (order[thing[0]],) + thing[1:]
    return tuple(exchanged(part, order) for part in thing)


def each_seat(thing):
    """All seats that stand in a thing, one behind the other."""
    if isinstance(thing, tuple) and thing and all(isinstance(number, int) for number in thing):
        yield thing
    elif isinstance(thing, tuple):
        for part in thing:
            yield from each_seat(part)


class Worlds(unittest.TestCase):
    def turned(self, world, order):
        kept = copy.deepcopy((world, order))
        told = world_turned(world, order)
        self.assertEqual(world_turned(world, order), told)
        self.assertEqual((world, order), kept)
        return told

    def test_first_worlds_stay(self):
        for roots in range(1, 5):
            for order in itertools.permutations(range(roots)):
                self.assertEqual(self.turned(first_world(roots), order), first_world(roots))

    def test_by_hand(self):
        """Seats that sit and are off, things with withins, marks, acks, fences, cuts, lefts, letters."""
        A, B, C = ((0,), 1), ((1,), 1), ((2,), 1)
        one = book((0,), 3, 2, 1, 1, ((A, (C, "b", 2)), (B, THING)), ((C, (((0,), 1, 0), ((1,), 0, 0))),),
                   (((0, 1), 1), ((1,), 2)), (((1,), 0), ((2,), 0)), (((0, 1), 4, 0), ((2,), 3, 0)))
        letters = (((0,), 1, ((A, (C, "b", 2)), (B, THING)), (), (((2,), 3, 0),)),
                   ((2,), 0, (), ((C, (((1,), 0, 0), ((2,), 0, 0))),), ()))
        world = (3, (((0,), one), ((0, 1), (4, 0, 0)), ((1,), (2, 1, 0)), ((2,), (3, 1, 0))), letters)
        a, b, c = ((2,), 1), ((0,), 1), ((1,), 1)
        wanted = book((2,), 3, 2, 1, 1, ((b, THING), (a, (c, "b", 2))), ((c, (((0,), 0, 0), ((2,), 1, 0))),),
                      (((0,), 2), ((2, 1), 1)), (((0,), 0), ((1,), 0)), (((1,), 3, 0), ((2, 1), 4, 0)))
        told = (((1,), 0, (), ((c, (((0,), 0, 0), ((1,), 0, 0))),), ()),
                ((2,), 1, ((b, THING), (a, (c, "b", 2))), (), (((1,), 3, 0),)))
        seats = (((0,), (2, 1, 0)), ((1,), (3, 1, 0)), ((2,), wanted), ((2, 1), (4, 0, 0)))
        self.assertIs(is_world(world), True)
        self.assertEqual(self.turned(world, (2, 0, 1)), (3, seats, told))

    def test_right_worlds_stay_right_and_shields_turn(self):
        many = 0
        for world in some_worlds(9):
            for order in orders_of(world)[-3:]:
                told = self.turned(world, order)
                self.assertIs(lets_world(told), True)
                for dot in dots_in(world):
                    wanted = tuple(sorted(exchanged(shielded(world, dot), order)))
                    self.assertEqual(shielded(told, exchanged(dot, order)), wanted)
                    many += len(wanted)
        self.assertGreater(many, 1000)

    def test_turned_back(self):
        for world in some_worlds(7):
            for order in orders_of(world):
                self.assertEqual(world_turned(self.turned(world, order), back(order)), world)

    def test_one_order_behind_another(self):
        draw = random.Random(3)
        for world in some_worlds(7):
            one, two = [draw.choice(orders_of(world)) for _ in range(2)]
            both = tuple(two[root] for root in one)
            self.assertEqual(world_turned(world_turned(world, one), two), world_turned(world, both))

    def test_each_seat_turns(self):
        """As many of each seat stand in the turned world as of the other one in the world."""
        for world in some_worlds(9):
            for order in orders_of(world)[-2:]:
                seats = sorted((order[seat[0]],) + seat[1:] for page in world[1:] for seat in each_seat(named(page)))
                told = sorted(seat for page in world_turned(world, order)[1:] for seat in each_seat(named(page)))
                self.assertEqual(told, seats)


def named(thing):
    """The thing without its counts, which look as a seat does."""
    if isinstance(thing, tuple) and len(thing) == 2 and isinstance(thing[1], tuple) and len(thing[1]) == 3:
        if all(isinstance(number, int) for number in thing[1]):
            return thing[:1]
    return tuple(named(part) for part in thing) if isinstance(thing, tuple) else thing


class Deeds(unittest.TestCase):
    def turned(self, deed, order):
        kept = copy.deepcopy((deed, order))
        told = deed_turned(deed, order)
        self.assertEqual(deed_turned(deed, order), told)
        self.assertEqual((deed, order), kept)
        self.assertIs(is_deed(told), True)
        return told

    def test_each_word(self):
        order = (2, 0, 3, 1)
        for deed, wanted in [
            (("put", (0,), THING), ("put", (2,), THING)),
            (("put", (1, 2), (((3, 1), 4), "a", 1)), ("put", (0, 2), (((1, 1), 4), "a", 1))),
            (("out", (0,), ((1, 3), 2)), ("out", (2,), ((0, 3), 2))),
            (("tell", (3,), ()), ("tell", (1,), ())),
            (("take", (0,), ((2, 1), 0)), ("take", (2,), ((3, 1), 0))),
            (("bring", (0, 1)), ("bring", (2, 1))),
            (("cut", (0,), (2, 2)), ("cut", (2,), (3, 2))),
            (("leave", (1,), (0,)), ("leave", (0,), (2,))),
            (("fall", (2, 1, 1, 1, 1)), ("fall", (3, 1, 1, 1, 1))),
            (("drop", (0,), ((0,), 3)), ("drop", (2,), ((2,), 3))),
            (("go", (0,), ((1,), 1), ()), ("go", (2,), ((0,), 1), ())),
        ]:
            self.assertEqual(self.turned(deed, order), wanted)
            self.assertEqual(self.turned(wanted, back(order)), deed)

    def test_papers_are_sorted_anew(self):
        paper = (((0,), "has", 4, 1), ((0, 1), "left", 2, 0), ((1,), "cut", 0, 3), ((2,), "has", 0, 0))
        wanted = (((0,), "cut", 0, 3), ((1,), "has", 0, 0), ((2,), "has", 4, 1), ((2, 1), "left", 2, 0))
        self.assertEqual(self.turned(("go", (0,), ((1,), 1), paper), (2, 0, 1)), ("go", (2,), ((0,), 1), wanted))

    def test_dots_told_stay_in_their_order(self):
        dots = (((0,), 1), ((2,), 1), ((1, 1), 1), ((0,), 1))
        wanted = (((2,), 1), ((1,), 1), ((0, 1), 1), ((2,), 1))
        self.assertEqual(self.turned(("tell", (0,), dots), (2, 0, 1)), ("tell", (2,), wanted))

    def test_deeds_lead_from_turned_to_turned(self):
        draw = random.Random(5)
        words = set()
        for deed, ahead, behind in each_step():
            order = draw.choice(orders_of(ahead))
            told = self.turned(deed, order)
            self.assertEqual(done(world_turned(ahead, order), told), world_turned(behind, order))
            self.assertEqual(self.turned(told, back(order)), deed)
            words.add(deed[0])
        self.assertEqual(len(words), 9)

    def outcome(self, world, deed):
        try:
            return done(world, deed)
        except GoneError as refusal:
            return (refusal.__class__, refusal.word)

    def test_refusals_have_the_same_class_and_word(self):
        """Deeds of other worlds of as many roots are mostly refused here."""
        draw = random.Random(11)
        worlds = some_worlds(5)
        refusals = set()
        for world in worlds:
            other = draw.choice([other for other in worlds if other[0] == world[0]])
            deeds = [deed for deed in deeds_from(other) if deed[0] != "fall"] or [("fall", (0,))]
            for deed in [draw.choice(deeds) for _ in range(8)]:
                if draw.random() < 0.2:
                    deed = ("drop", deed[1], ((0,), 1))
                order = draw.choice(orders_of(world))
                told = self.outcome(world, deed)
                again = self.outcome(world_turned(world, order), deed_turned(deed, order))
                if len(told) == 3:
                    self.assertEqual(again, world_turned(told, order))
                else:
                    self.assertEqual(again, told)
                    refusals.add(told)
        self.assertGreater(len(refusals), 7)


if __name__ == "__main__":
    unittest.main()
