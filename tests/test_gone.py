"""Gone for ever: [80], [81]."""

import copy
import unittest

from gonemarks.deeds import done, is_deed, walked
from gonemarks.gone import bringing, gone_dots, state_of
from gonemarks.meetings import rounds
from gonemarks.worlds import first_world, holders
from tests.samples import FORTY
from tests.steps import STEPS, done_again, some_worlds
from tests.walks import books_in, counts_in, dots_in, shielded_by_striking, spoiled_worlds
from tests.test_whole_deeds import is_let_by

A, B, C = ((0,), 1), ((0,), 2), ((1,), 1)
THING, OTHER = ((), "a", 1), ((), "b", 2)


class Case(unittest.TestCase):
    def told(self, ask, *handed):
        kept = copy.deepcopy(handed)
        told = ask(*handed)
        self.assertEqual(ask(*handed), told)
        self.assertEqual(handed, kept)
        return told

    def states(self, world, **dots):
        names = {"A": A, "B": B, "C": C}
        for name, word in dots.items():
            self.assertEqual(self.told(state_of, world, names[name]), word, name)

    def brings(self, world, dot):
        """The told take, behind which a seat holds the dot that did not."""
        deed = self.told(bringing, world, dot)
        self.assertIs(is_deed(deed), True)
        self.assertEqual(deed[0], "take")
        self.assertLess(set(holders(world, dot)), set(holders(done(world, deed), dot)))
        return deed


class States(Case):
    def test_none(self):
        for dot in [A, C, ((2,), 1), ((0, 1), 1), ((3, 1), FORTY)]:
            self.assertEqual(self.told(state_of, first_world(2), dot), "none")
        world = walked(first_world(2), (("put", (0,), THING), ("bring", (0,)), ("fall", (0, 1))))
        for dot in [B, C, ((0,), FORTY), ((0, 1), 1), ((0, 2), 1), ((2,), 1)]:
            self.assertEqual(state_of(world, dot), "none")
            self.assertIsNone(self.told(bringing, world, dot))
        self.assertEqual(self.told(gone_dots, world), ())

    def test_held(self):
        world = walked(first_world(2), (("put", (0,), THING), ("put", (0,), OTHER), ("put", (1,), THING)))
        self.states(world, A="held", B="held", C="held")
        self.assertEqual(gone_dots(world), ())
        self.assertIsNone(bringing(world, A))

    def test_taken_out_where_nobody_else_knew_it(self):
        world = walked(first_world(2), (("put", (0,), THING), ("put", (0,), OTHER), ("out", (0,), A)))
        self.states(world, A="gone", B="held")
        self.assertEqual(self.told(gone_dots, world), (A,))

    def test_adrift_by_a_letter(self):
        world = walked(first_world(2), (("put", (0,), THING), ("tell", (0,), (A,)), ("out", (0,), A)))
        self.states(world, A="adrift")
        self.assertEqual(gone_dots(world), ())
        self.assertEqual(self.brings(world, A), ("take", (1,), ((0,), 0)))
        self.states(done(world, ("take", (1,), ((0,), 0))), A="held")

    def test_held_by_some(self):
        """One that marks it takes it from nobody; one that has it not may take it."""
        world = walked(first_world(3), (("put", (0,), THING), ("tell", (0,), (A,)), ("take", (1,), ((0,), 0))))
        self.assertEqual(self.brings(world, A), ("take", (2,), ((0,), 0)))
        world = done(world, ("take", (2,), ((0,), 0)))
        self.assertIsNone(bringing(world, A))
        world = done(world, ("out", (2,), A))
        self.states(world, A="held")
        self.assertIsNone(bringing(world, A))

    def test_a_letter_that_is_passed_brings_nothing(self):
        row = (("put", (0,), THING), ("tell", (0,), (A,)), ("out", (0,), A))
        world = walked(first_world(2), (*row, ("cut", (1,), (0,))))
        self.assertIsNone(self.told(bringing, world, A))
        self.states(world, A="gone")
        child = walked(first_world(1), (*row, ("bring", (0,))))
        self.assertIsNone(bringing(child, A))
        self.states(child, A="gone")

    def test_fallen(self):
        """Who held it fell: it is gone for all others, but for a letter."""
        world = walked(first_world(2), (("put", (0,), THING), ("fall", (0,))))
        self.states(world, A="gone")
        world = walked(first_world(2), (("put", (0,), THING), ("tell", (0,), (A,)), ("fall", (0,))))
        self.states(world, A="adrift")
        self.brings(world, A)

    def test_all_fell(self):
        world = walked(first_world(2), (("put", (0,), THING), ("tell", (0,), (A,)), ("put", (1,), OTHER),
                                        ("fall", (0,)), ("fall", (1,))))
        self.states(world, A="gone", B="none", C="gone")
        self.assertEqual(gone_dots(world), (A, C))
        self.assertIsNone(bringing(world, A))

    def test_behind_rounds(self):
        world = walked(first_world(3), (("put", (0,), THING), ("tell", (0,), (A,)), ("take", (1,), ((0,), 0)),
                                        ("out", (1,), A), ("put", (0,), THING)))
        world = walked(world, rounds(world))
        self.states(world, A="gone", B="held")
        self.assertEqual(gone_dots(world), (A,))
        self.assertIsNone(bringing(world, A))

    def test_put_anew_it_has_another_dot(self):
        world = walked(first_world(1), (("put", (0,), THING), ("out", (0,), A), ("put", (0,), THING)))
        self.states(world, A="gone", B="held")

    def test_gone_dots_rise_as_numbers_do(self):
        row = [("put", (0,), THING) for _ in range(12)] + [("out", (0,), ((0,), k)) for k in range(12, 0, -1)]
        row += [("bring", (0,)) for _ in range(11)]
        row += [(word, (0, i), what) for i in (2, 10, 11) for word, what in
                [("put", THING), ("out", ((0, i), 1))]]
        world = walked(first_world(1), row)
        wanted = [((0,), k) for k in range(1, 13)] + [((0, i), 1) for i in (2, 10, 11)]
        self.assertEqual(gone_dots(world), tuple(wanted))


class Drawn(Case):
    def word(self, world, dot):
        """[80] by another way."""
        if dot[1] > counts_in(world).get(dot[0], (0, 0))[1]:
            return "none"
        if any(dot in dict(one[5]) for one in books_in(world).values()):
            return "held"
        return "gone" if set(shielded_by_striking(world, dot)) == set(books_in(world)) else "adrift"

    def takes(self, world, dot):
        """[81] by another way: all takes that bring the dot."""
        found = []
        for seat, one in books_in(world).items():
            for letter in world[2]:
                deed = ("take", seat, letter[:2])
                if dot not in dict(one[5]) and dot in dict(books_in(done_again(world, deed))[seat][5]):
                    found.append(deed)
        return found

    def check(self, world, words):
        for dot in [*dots_in(world), ((0,), 61)]:
            word = self.word(world, dot)
            self.assertEqual(state_of(world, dot), word)
            takes = self.takes(world, dot)
            deed = bringing(world, dot)
            self.assertTrue(deed in takes if takes else deed is None)
            if word in ("none", "gone"):
                self.assertEqual(takes, [])
            if word == "adrift":
                self.assertNotEqual(takes, [])
            words[word] = words.get(word, 0) + 1
        self.assertEqual(gone_dots(world), tuple(sorted(dot for dot in dots_in(world)
                                                        if self.word(world, dot) == "gone")))

    def test_drawn_worlds(self):
        words = {}
        for world in some_worlds(4):
            self.check(world, words)
        self.assertGreater(min(words.values()), 15)
        self.assertEqual(len(words), 4)

    def test_bent_worlds_that_are_let_by(self):
        words = {}
        for number in range(20):
            for world in spoiled_worlds(number, 10):
                if is_let_by(world):
                    self.check(world, words)
        self.assertEqual(len(words), 4)

    def test_what_is_gone_stays_gone(self):
        for rows in STEPS:
            gone = set()
            for deed, world in rows:
                told = set(gone_dots(world))
                self.assertLessEqual(gone, told, deed)
                gone = told


if __name__ == "__main__":
    unittest.main()
