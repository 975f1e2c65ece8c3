"""All that can be done: [64]."""

import copy
import unittest

from gonemarks.alldeeds import deeds_from
from gonemarks.deeds import done, is_deed, walked
from gonemarks.errors import GoneError
from gonemarks.gochecker import lets_go
from gonemarks.worlds import first_world
from tests.samples import all_seats
from tests.steps import done_again, some_worlds
from tests.walks import books_in, dots_in

A, B = ((0,), 1), ((0,), 2)
THING = ((), "a", 1)


def can(world, deed):
    try:
        done_again(world, deed)
    except GoneError:
        return False
    return True


def lacks_nobody(one, dot):
    """[43] by another way: whether each seat that must be known of has a word; from the roots on, stem by stem."""
    reaches = {}
    for seat, n, m in dict(one[6])[dot] + one[9]:
        reaches.setdefault(seat, []).append(m)
    for seat, m in one[8]:
        reaches.setdefault(seat, []).append(m)
    waiting = [(root,) for root in range(one[1])]
    for seat in waiting:
        if seat not in reaches:
            return False
        waiting.extend([seat + (i,) for i in range(1, min(reaches[seat]) + 1)])
    return True


def wanted_of(world, seat):
    """The deeds of a seat as the point tells them; of a going no paper."""
    one = books_in(world)[seat]
    others = sorted({*all_seats(4, 2, 3), *[entry[0] for entry in world[1]]})
    yield ("tell", seat, tuple(sorted([row[0] for row in one[5] + one[6]])))
    for letter in world[2]:
        if done_again(world, ("take", seat, letter[:2])) != world:
            yield ("take", seat, letter[:2])
    for dot in sorted(dots_in(world)):
        if can(world, ("out", seat, dot)):
            yield ("out", seat, dot)
    for dot in sorted(dots_in(world)):
        if dot in dict(one[6]) and lacks_nobody(one, dot):
            yield ("go", seat, dot)
    if can(world, ("bring", seat)):
        yield ("bring", seat)
    for word in ("cut", "leave"):
        for other in others:
            if can(world, (word, seat, other)):
                yield (word, seat, other)
    yield ("fall", seat)


class AllDeeds(unittest.TestCase):
    def test_of_first_worlds(self):
        self.assertEqual(deeds_from(first_world(1)), [("tell", (0,), ()), ("bring", (0,)), ("fall", (0,))])
        self.assertEqual(deeds_from(first_world(2)), [
            ("tell", (0,), ()), ("bring", (0,)), ("cut", (0,), (1,)), ("leave", (0,), (1,)), ("fall", (0,)),
            ("tell", (1,), ()), ("bring", (1,)), ("cut", (1,), (0,)), ("leave", (1,), (0,)), ("fall", (1,))])

    def test_where_nobody_sits(self):
        self.assertEqual(deeds_from(walked(first_world(2), (("fall", (0,)), ("fall", (1,))))), [])

    def test_in_order(self):
        world = walked(first_world(2), (
            ("put", (0,), THING), ("put", (0,), THING), ("tell", (0,), (A, B)), ("take", (1,), ((0,), 0)),
            ("out", (1,), A), ("tell", (1,), (A,)), ("take", (0,), ((1,), 0)), ("tell", (0,), (A,)),
            ("bring", (1,)), ("cut", (0,), (1,))))
        told = deeds_from(world)
        self.assertEqual([deed for deed in told if deed[1] == (0,)], [
            ("tell", (0,), (A, B)), ("out", (0,), B), ("go", (0,), A, (((0,), "has", 1, 0), ((1,), "has", 0, 0))),
            ("bring", (0,)), ("leave", (0,), (1,)), ("leave", (0,), (1, 1)), ("fall", (0,))])
        self.assertEqual([deed for deed in told if deed[1] == (1,)], [
            ("tell", (1,), (A, B)), ("take", (1,), ((0,), 1)), ("out", (1,), B), ("bring", (1,)), ("cut", (1,), (0,)),
            ("cut", (1,), (1, 1)), ("leave", (1,), (1, 1)), ("fall", (1,))])
        self.assertEqual([deed[:3] for deed in told if deed[1] == (1, 1)], [
            ("tell", (1, 1), (A, B)), ("take", (1, 1), ((0,), 1)), ("out", (1, 1), B), ("bring", (1, 1)),
            ("cut", (1, 1), (0,)), ("cut", (1, 1), (1,)), ("leave", (1, 1), (1,)), ("fall", (1, 1))])
        self.assertEqual([deed[1] for deed in told], sorted([deed[1] for deed in told]))

    def test_a_bring_that_is_refused_is_left_out(self):
        world = walked(first_world(1), [("bring", (0,) + (1,) * size) for size in range(4)])
        self.assertIn(("bring", (0, 1, 1, 1)), deeds_from(world))
        self.assertNotIn(("bring", (0, 1, 1, 1, 1)), deeds_from(world))

    def test_drawn_worlds(self):
        """Nothing that could be done is left out, in the order that is told, and each paper is let by."""
        words = {}
        for world in some_worlds(6):
            told = deeds_from(world)
            wanted = [deed for seat in sorted(books_in(world)) for deed in wanted_of(world, seat)]
            self.assertEqual([deed[:3] for deed in told], wanted)
            for deed in told:
                words[deed[0]] = words.get(deed[0], 0) + 1
                if deed[0] == "go":
                    self.assertIs(lets_go(books_in(world)[deed[1]], deed[2], deed[3]), True)
        self.assertEqual(set(words), {"tell", "take", "out", "go", "bring", "cut", "leave", "fall"})
        self.assertGreater(min(words.values()), 30)

    def test_each_can_be_done(self):
        for world in some_worlds(9):
            for deed in deeds_from(world):
                self.assertIs(is_deed(deed), True)
                self.assertEqual(done(world, deed), done_again(world, deed))

    def test_what_is_told_is_the_askers_own(self):
        for world in some_worlds(25):
            kept = copy.deepcopy(world)
            told = deeds_from(world)
            self.assertIs(told.__class__, list)
            wanted = list(told)
            told.reverse()
            told.append(None)
            del told[:2]
            self.assertEqual(deeds_from(world), wanted)
            self.assertEqual(world, kept)


if __name__ == "__main__":
    unittest.main()
