"""The promises over whole worlds, along drawn walks: [5], [31], [32], [42], [44], [57], [59]."""

import unittest

from gonemarks.going import let_go, paper_for
from gonemarks.knowing import acks_of, closure, lacking, reach_of
from gonemarks.shields import shielded
from gonemarks.taking import is_passed, take
from gonemarks.worldchecker import lets_world
from gonemarks.worlds import holders, markers, sitting
from tests.walks import books_in, counts_in, dots_in, is_over, walk, with_page

WALKS = [walk(number, 30) for number in range(150)]


class Walks(unittest.TestCase):
    def steps(self):
        """Each deed of the walks: its name, the world ahead and the one behind it."""
        for walked in WALKS:
            for ahead, behind in zip(walked, walked[1:]):
                yield behind[0], ahead[1], behind[1]

    def test_each_deed_leads_from_a_right_world_to_a_right_one(self):
        self.assertGreater(len({name for walked in WALKS for name, world in walked}), 9)
        for walked in WALKS:
            for name, world in walked:
                self.assertIs(lets_world(world), True, name)

    def test_who_marks_a_dot_is_shielded_for_it(self):
        for walked in WALKS:
            world = walked[-1][1]
            for dot in dots_in(world):
                self.assertLessEqual(set(markers(world, dot)), set(shielded(world, dot)))

    def test_shielded_seats_stay_so(self):
        many = 0
        for name, ahead, behind in self.steps():
            for dot in dots_in(ahead):
                stay = set(shielded(ahead, dot)) & set(sitting(behind))
                self.assertLessEqual(stay, set(shielded(behind, dot)), name)
                many += len(stay)
        self.assertGreater(many, 1000)

    def test_who_had_the_mark_never_holds_it_again(self):
        many = 0
        for walked in WALKS:
            had = set()
            for name, world in walked:
                for seat, one in books_in(world).items():
                    for dot, thing in one[5]:
                        self.assertNotIn((seat, dot), had)
                    had |= {(seat, dot) for dot, acks in one[6]}
            many += len(had)
        self.assertGreater(many, 300)

    def test_nothing_is_lost_but_by_a_fall(self):
        many = 0
        for walked in WALKS:
            marked = set()
            for name, world in walked:
                if name == "fall_deed":
                    break
                marked |= {dot for one in books_in(world).values() for dot, acks in one[6]}
                for dot in dots_in(world):
                    if dot not in marked:
                        self.assertNotEqual(holders(world, dot), ())
                        many += 1
        self.assertGreater(many, 1000)

    def test_gone_for_ever(self):
        many = 0
        for walked in WALKS:
            gone = set()
            for name, world in walked:
                for dot in gone:
                    self.assertEqual(holders(world, dot), ())
                gone |= {dot for dot in dots_in(world) if shielded(world, dot) == sitting(world)}
            many += len(gone)
        self.assertGreater(many, 100)


class Papers(unittest.TestCase):
    def marks(self):
        for walked in WALKS:
            for name, world in walked[::3]:
                for seat, one in books_in(world).items():
                    for dot, acks in one[6]:
                        yield world, seat, one, dot

    def test_what_is_told_of_reaches_is_so_in_the_world(self):
        """[31], [32]: who has a reach is shielded, left or is cut; its children up to the reach are there."""
        many = 0
        for world, seat, one, dot in self.marks():
            counts = counts_in(world)
            for y in closure(one, dot):
                self.assertIn(y, counts)
                reach = reach_of(one, dot, y)
                if reach is not None:
                    many += 1
                    self.assertLessEqual(reach, counts[y][2])
                    has = y in [ack[0] for ack in acks_of(one, dot)]
                    sits = y in sitting(world)
                    self.assertTrue(not sits or is_over(one, y) or (has and y in shielded(world, dot)))
            for y in lacking(one, dot):
                self.assertFalse(is_over(one, y))
        self.assertGreater(many, 500)

    def test_who_may_still_tell_it_is_behind_a_row(self):
        """[42]: each seat that isn't passed over stands in the paper, or comes behind one that has the mark."""
        many = 0
        for world, seat, one, dot in self.marks():
            paper = paper_for(one, dot)
            if paper is None:
                continue
            rows = {row[0]: row for row in paper}
            for z in counts_in(world):
                behind = [y for y in rows if len(z) > len(y) and z[:len(y)] == y and z[len(y)] > rows[y][3]]
                has = [y for y in behind if rows[y][1] == "has"]
                many += bool(has)
                self.assertTrue(z in rows or has or is_over(one, z))
        self.assertGreater(many, 20)

    def test_behind_a_paper_no_letter_brings_it_back(self):
        """[42], [44], [59]: nor does one that is written later on, by whoever still holds it."""
        many = 0
        for world, seat, one, dot in self.marks():
            paper = paper_for(one, dot)
            if paper is None:
                continue
            behind = let_go(one, dot, paper)
            after = with_page(world, seat, behind)
            self.assertIs(lets_world(after), True)
            self.assertIn(seat, shielded(after, dot))
            for letter in world[2]:
                if dot in dict(letter[2]):
                    many += 1
                    self.assertIs(is_passed(behind, letter), True)
                self.assertNotIn(dot, dict(take(behind, letter)[5]))
            for z in holders(world, dot):
                self.assertIs(is_over(behind, z), True)
        self.assertGreater(many, 20)


if __name__ == "__main__":
    unittest.main()
