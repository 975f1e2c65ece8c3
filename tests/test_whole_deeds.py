"""The promises over whole worlds, along rows of deeds: [5], [47], [59], [62]."""

import random
import unittest

from gonemarks.alldeeds import deeds_from
from gonemarks.backchecker import lets_back, steps_back
from gonemarks.contrary import contrary_for, verdict
from gonemarks.deeds import done, is_deed, walked
from gonemarks.errors import NoWorld
from gonemarks.shields import shielded
from gonemarks.worldchecker import lets_world
from gonemarks.worlds import holders, markers, sitting
from tests.steps import STEPS, each_step, some_worlds
from tests.walks import books_in, dots_in, spoiled_worlds


def is_let_by(world):
    try:
        return lets_world(world)
    except NoWorld:
        return False


class Rows(unittest.TestCase):
    def test_each_world_is_let_by(self):
        self.assertEqual({rows[0][1][0] for rows in STEPS}, {1, 2, 3, 4})
        for rows in STEPS:
            for deed, world in rows:
                self.assertIs(lets_world(world), True, deed)

    def stay_shielded(self, deed, ahead, behind):
        many = 0
        for dot in dots_in(ahead):
            stay = set(shielded(ahead, dot)) & set(sitting(behind))
            self.assertLessEqual(stay, set(shielded(behind, dot)), deed)
            many += len(stay)
        return many

    def test_shielded_seats_stay_so(self):
        self.assertGreater(sum(self.stay_shielded(*step) for step in each_step()), 3000)

    def test_who_marks_a_dot_is_shielded_for_it(self):
        for world in some_worlds(3):
            for dot in dots_in(world):
                self.assertLessEqual(set(markers(world, dot)), set(shielded(world, dot)))

    def test_who_lets_a_mark_go_stays_shielded(self):
        many = 0
        for deed, ahead, behind in each_step():
            if deed[0] == "go":
                self.assertNotIn(deed[1], markers(behind, deed[2]))
                self.assertIn(deed[1], shielded(behind, deed[2]))
                many += 1
        self.assertGreater(many, 50)

    def test_who_had_the_mark_never_holds_it_again(self):
        many = 0
        for rows in STEPS:
            had = set()
            for deed, world in rows:
                for seat, one in books_in(world).items():
                    self.assertEqual(had & {(seat, dot) for dot, thing in one[5]}, set())
                    had |= {(seat, dot) for dot, acks in one[6]}
            many += len(had)
        self.assertGreater(many, 300)

    def test_nothing_is_lost_but_by_a_fall(self):
        many = 0
        for rows in STEPS:
            marked = set()
            for deed, world in rows:
                if deed and deed[0] == "fall":
                    break
                marked |= {dot for one in books_in(world).values() for dot, acks in one[6]}
                for dot in dots_in(world):
                    if dot not in marked:
                        self.assertNotEqual(holders(world, dot), ())
                        many += 1
        self.assertGreater(many, 1000)

    def test_what_is_gone_stays_gone(self):
        many = 0
        for rows in STEPS:
            gone = set()
            for deed, world in rows:
                for dot in gone:
                    self.assertEqual((holders(world, dot), shielded(world, dot)), ((), sitting(world)))
                gone |= {dot for dot in dots_in(world) if shielded(world, dot) == sitting(world)}
            many += len(gone)
        self.assertGreater(many, 100)

    def test_a_child_holds_what_its_parent_holds(self):
        many = 0
        for deed, ahead, behind in each_step():
            if deed[0] == "bring":
                seat = deed[1]
                child = seat + (books_in(behind)[seat][4],)
                self.assertNotIn(child, dict(ahead[1]))
                self.assertEqual(books_in(behind)[child][5], books_in(behind)[seat][5])
                many += len(books_in(behind)[child][5])
        self.assertGreater(many, 100)


class WhoeverWroteIt(unittest.TestCase):
    def test_from_bent_worlds_that_are_let_by(self):
        """Worlds to which no deeds led: each deed leads to one that is let by, and shields stay."""
        many = 0
        for number in range(40):
            for world in spoiled_worlds(number, 24):
                if not is_let_by(world):
                    continue
                draw = random.Random(number)
                deeds = deeds_from(world)
                for deed in draw.sample(deeds, min(5, len(deeds))):
                    behind = done(world, deed)
                    self.assertIs(lets_world(behind), True, deed)
                    Rows.stay_shielded(self, deed, world, behind)
                    many += 1
        self.assertGreater(many, 500)


class Contraries(unittest.TestCase):
    def marks(self):
        for world in some_worlds(6):
            for seat, one in books_in(world).items():
                for dot, acks in one[6]:
                    yield world, seat, one, dot

    def test_the_thing_is_back(self):
        many = 0
        for _, seat, one, dot in self.marks():
            contrary = contrary_for(one, dot)
            if contrary is None:
                continue
            self.assertIs(lets_back(one, dot, contrary), True)
            row = steps_back(one, dot, contrary)
            self.assertEqual([is_deed(deed) for deed in row], [True] * 3)
            self.assertNotIn(seat, holders(contrary[0], dot))
            self.assertIn(seat, holders(walked(contrary[0], row), dot))
            many += 1
        self.assertGreater(many, 100)

    def test_without_the_drop_it_isnt(self):
        for _, seat, one, dot in self.marks():
            contrary = contrary_for(one, dot)
            if contrary is not None:
                behind = walked(contrary[0], steps_back(one, dot, contrary)[1:])
                self.assertNotIn(seat, holders(behind, dot))
                self.assertIs(lets_world(behind), True)

    def test_deeds_in_contraries_lead_to_worlds_that_are_let_by(self):
        many = 0
        for _, seat, one, dot in list(self.marks())[::6]:
            contrary = contrary_for(one, dot)
            for deed in deeds_from(contrary[0])[::3] if contrary else []:
                self.assertIs(lets_world(done(contrary[0], deed)), True)
                many += 1
        self.assertGreater(many, 50)

    def test_a_verdict_that_tells_to_go_is_safe(self):
        many = 0
        for world, seat, one, dot in self.marks():
            word, paper = verdict(one, dot)
            if word == "go":
                behind = done(world, ("go", seat, dot, paper))
                self.assertIs(lets_world(behind), True)
                self.assertIn(seat, shielded(behind, dot))
                many += 1
        self.assertGreater(many, 50)


if __name__ == "__main__":
    unittest.main()
