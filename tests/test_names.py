"""Seats, dots, things: [2], [3], [10]."""

import copy
import unittest

from gonemarks.names import begins, child_of, is_dot, is_seat, is_thing, stems
from tests.samples import FORTY, ODD, SEATS, spoiled


class Kinds(unittest.TestCase):
    def yes(self, asked, things):
        for thing in things:
            self.assertIs(asked(thing), True, thing)
            self.assertIs(asked(thing), True, thing)

    def no(self, asked, things):
        for thing in things:
            kept = copy.deepcopy(thing)
            self.assertIs(asked(thing), False, thing)
            self.assertIs(asked(thing), False, thing)
            self.assertEqual(repr(thing), repr(kept))

    def test_seats_by_length(self):
        self.yes(is_seat, [(0,), (0, 1), (0, 1, 2), (0, 1, 2, 3), (0, 1, 2, 3, 4)])
        self.no(is_seat, [(), (0, 1, 2, 3, 4, 5), (0,) + (1,) * 30])

    def test_seats_by_bounds(self):
        self.yes(is_seat, [(0,), (1,), (2,), (3,), (3, 1), (3, 99), (0, 1, 1, 1, 99)])
        self.no(is_seat, [(-1,), (4,), (FORTY,), (-FORTY,)])
        for at in range(1, 5):
            for number in (0, 100, -1, FORTY):
                seat = [3, 99, 1, 50, 7]
                seat[at] = number
                self.no(is_seat, [tuple(seat), tuple(seat[:at + 1])])

    def test_seats_by_kind(self):
        self.no(is_seat, spoiled((1,)))
        self.no(is_seat, spoiled((1, 1, 2, 3, 1)))
        self.no(is_seat, ["0.1", "0", [0], ((0,),), ("0",), [[0], 1], {}.get("none")])

    def test_dots(self):
        self.yes(is_dot, [((0,), 1), ((3, 99, 1, 1, 1), 1), ((1, 2), FORTY)])
        self.no(is_dot, [((0,), 0), ((0,), -1), ((0,), -FORTY), ((4,), 1), ((), 1), ((0, 0), 1), (0, 1)])
        self.no(is_dot, [((0,),), ((0,), 1, 1), (), ((0,), (0,)), (1, (0,))])
        self.no(is_dot, spoiled(((1, 1), 1)))

    def test_things(self):
        self.yes(is_thing, [((), "a", 0), (((0,), 1), "abcdefgh", 999), (((3, 9), FORTY), "z", -999), ((), "az", -1)])
        self.no(is_thing, [((), "a"), ((), "a", 0, 0), ((),), ()])
        self.no(is_thing, spoiled(((), "a", 1)))
        self.no(is_thing, spoiled((((0, 1), 1), "ab", 1)))

    def test_within_is_nothing_or_a_dot(self):
        for within in [(0,), ((0,), 0), ((0,),), ((),), ((4,), 1), [], [(0,), 1], None, "", "-", 0, False, ((0,), 1, 1)]:
            self.no(is_thing, [(within, "a", 0)])

    def test_names(self):
        for name in ["a", "z", "m", "abcdefgh", "zzzzzzzz"]:
            self.yes(is_thing, [((), name, 5)])
        for name in ["", "abcdefghi", "A", "aB", "a1", "1", "a b", " a", "a ", "-", "`", "{", "a_", "a.b", "~", "a" * 99]:
            self.no(is_thing, [((), name, 5)])

    def test_values(self):
        self.yes(is_thing, [((), "a", value) for value in (-999, -998, -1, 0, 1, 998, 999)])
        self.no(is_thing, [((), "a", value) for value in (-1000, 1000, FORTY, -FORTY)])

    def test_odd_ones(self):
        self.no(is_thing, ODD)
        for asked, own in [(is_seat, [(0,)]), (is_dot, [((0,), 1)])]:
            self.no(asked, [thing for thing in ODD if repr(thing) not in [repr(one) for one in own]])

    def test_deep_ones(self):
        deep = ()
        for _ in range(39):
            deep = (deep,)
        for asked in (is_seat, is_dot, is_thing):
            self.no(asked, [deep, (deep, 1), (deep, "a", 1), [deep], (0, deep)])


class Kin(unittest.TestCase):
    def test_begins(self):
        self.assertIs(begins((0, 1, 2), (0, 1, 2)), True)
        self.assertIs(begins((0, 1, 2), (0, 1)), True)
        self.assertIs(begins((0, 1, 2), (0,)), True)
        self.assertIs(begins((0, 1, 2), (0, 2)), False)
        self.assertIs(begins((0, 1, 2), (1,)), False)
        self.assertIs(begins((0, 1, 2), (0, 1, 3)), False)
        self.assertIs(begins((0, 1, 2), (0, 1, 2, 1)), False)
        self.assertIs(begins((0,), (0, 1)), False)
        self.assertIs(begins((0, 12), (0, 1)), False)
        self.assertIs(begins((0, 1, 2, 3, 4), (0, 1, 2, 3, 4)), True)

    def test_begins_of_all_pairs(self):
        for seat in SEATS:
            for other in SEATS:
                longer = len(other) > len(seat)
                fits = not longer and all(mine == its for mine, its in zip(seat, other))
                self.assertIs(begins(seat, other), fits)

    def test_child(self):
        self.assertEqual(child_of((0,), 1), (0, 1))
        self.assertEqual(child_of((3,), 99), (3, 99))
        self.assertEqual(child_of((0, 1, 2, 3), 1), (0, 1, 2, 3, 1))
        self.assertEqual(child_of((0, 1, 2, 3), 99), (0, 1, 2, 3, 99))
        self.assertIsNone(child_of((0, 1, 2, 3, 4), 1))
        self.assertIsNone(child_of((0, 1, 2, 3, 4), 99))
        self.assertIs(type(child_of((0,), 1)), tuple)

    def test_stems(self):
        self.assertEqual(stems((2,)), ((2,),))
        self.assertEqual(stems((2, 7)), ((2,), (2, 7)))
        five = ((2,), (2, 7), (2, 7, 1), (2, 7, 1, 1), (2, 7, 1, 1, 99))
        self.assertEqual(stems((2, 7, 1, 1, 99)), five)
        self.assertIs(type(stems((2, 7))), tuple)

    def test_stems_are_what_a_seat_begins_with(self):
        for seat in SEATS:
            told = stems(seat)
            self.assertEqual(list(told), [other for other in SEATS if begins(seat, other)])
            self.assertEqual((told[0], told[-1]), (seat[:1], seat))


if __name__ == "__main__":
    unittest.main()
