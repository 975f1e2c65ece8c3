"""What is shown: [70], [71], [72]."""

import copy
import random
import unittest

from gonemarks.own import put
from gonemarks.books import first_book
from gonemarks.views import names_at, outline, row_at, shown, standing, sum_at
from tests.samples import FORTY, book
from tests.steps import some_worlds
from tests.walks import books_in

A, B, C, D, E = [((0,), k) for k in range(1, 6)]
FAR = ((1, 10), 2)


def holding(*things, marks=()):
    return book((0,), 2, 0, 9, 0, tuple(sorted(things)), marks)


class Case(unittest.TestCase):
    def told(self, ask, *handed):
        kept = copy.deepcopy(handed)
        told = ask(*handed)
        self.assertEqual(ask(*handed), told)
        self.assertEqual(handed, kept)
        return told


class Shown(Case):
    def test_nothing(self):
        one = first_book((0,), 2)
        self.assertEqual(self.told(shown, one), ())
        for place in [(), A, FAR]:
            self.assertEqual(self.told(standing, one, place), ())

    def test_within_nothing(self):
        rows = ((A, ((), "a", 1)), (B, ((), "a", 1)), (FAR, ((), "z", -9)))
        one = holding(*rows)
        self.assertEqual(self.told(shown, one), rows)
        self.assertEqual(self.told(standing, one, ()), (A, B, FAR))
        self.assertEqual(self.told(standing, one, A), ())

    def test_several_deep(self):
        """A thing may stand ahead of the one within which it is."""
        rows = ((A, (B, "a", 1)), (B, (D, "b", 2)), (C, (B, "c", 3)), (D, ((), "d", 4)), (E, (A, "e", 5)))
        one = holding(*rows)
        self.assertEqual(self.told(shown, one), rows)
        for place, dots in [((), (D,)), (D, (B,)), (B, (A, C)), (A, (E,)), (C, ()), (E, ())]:
            self.assertEqual(self.told(standing, one, place), dots)

    def test_within_a_dot_that_isnt_held(self):
        for away in [B, ((0,), 9), ((1,), 1), FAR]:
            one = holding((A, (away, "a", 1)), (C, (A, "c", 1)), (D, ((), "d", 1)))
            self.assertEqual(self.told(shown, one), ((D, ((), "d", 1)),))
            self.assertEqual(standing(one, away), ())
            self.assertEqual(standing(one, A), ())
            self.assertEqual(standing(one, ()), (D,))

    def test_within_a_marked_dot(self):
        one = holding((A, (B, "a", 1)), (C, ((), "c", 1)), marks=((B, (((0,), 0, 0),)),))
        self.assertEqual(shown(one), ((C, ((), "c", 1)),))
        self.assertEqual(standing(one, B), ())

    def test_round(self):
        one = holding((A, (A, "a", 1)), (B, (C, "b", 1)), (C, (B, "c", 1)), (D, (C, "d", 1)), (E, ((), "e", 1)))
        self.assertEqual(self.told(shown, one), ((E, ((), "e", 1)),))
        for place in (A, B, C, D):
            self.assertEqual(standing(one, place), ())

    def test_a_dot_that_nobody_has(self):
        one = holding((A, ((), "a", 1)))
        for place in [((3, 9, 9, 9, 9), FORTY), ((0,), 9), ((0, 1), 1)]:
            self.assertEqual(self.told(standing, one, place), ())

    def test_numbers_rise_not_signs(self):
        rows = tuple((((0, i), k), ((), "a", 0)) for i in (2, 9, 10, 11) for k in (1, 9, 10, 100))
        one = holding(*rows)
        self.assertEqual(shown(one), rows)
        self.assertEqual(standing(one, ()), tuple(dot for dot, thing in rows))


class Faces(Case):
    def test_of_nothing(self):
        one = first_book((0,), 1)
        for place in [(), A]:
            self.assertEqual(self.told(names_at, one, place), ())
            self.assertEqual(self.told(sum_at, one, place, "a"), 0)
            self.assertEqual(self.told(row_at, one, place), ())
            self.assertEqual(self.told(outline, one, place), ())

    def setUp(self):
        self.one = holding((A, ((), "pear", 5)), (B, ((), "fig", -7)), (C, ((), "pear", -7)), (D, (A, "pear", 999)),
                           (E, (A, "ab", -999)), (((0,), 6), (A, "pear", -1)), (((0,), 7), (((0,), 8), "lost", 3)))

    def test_names(self):
        self.assertEqual(self.told(names_at, self.one, ()), ("fig", "pear"))
        self.assertEqual(self.told(names_at, self.one, A), ("ab", "pear"))
        self.assertEqual(names_at(self.one, B), ())
        self.assertEqual(names_at(self.one, ((0,), 8)), ())

    def test_sums(self):
        for place, name, wanted in [((), "pear", -2), ((), "fig", -7), ((), "ab", 0), (A, "pear", 998),
                                    (A, "ab", -999), (A, "fig", 0), (B, "fig", 0), (((0,), 8), "lost", 0)]:
            self.assertEqual(self.told(sum_at, self.one, place, name), wanted)

    def test_rows(self):
        self.assertEqual(self.told(row_at, self.one, ()), (B, C, A))
        self.assertEqual(self.told(row_at, self.one, A), (E, ((0,), 6), D))
        self.assertEqual(row_at(self.one, ((0,), 8)), ())

    def test_like_values_by_dots(self):
        dots = [((0,), 2), ((0,), 10), ((0, 2), 1), ((0, 10), 1), ((1,), 1)]
        one = holding(*[(dot, ((), name, 3)) for dot, name in zip(dots, ["z", "y", "x", "w", "v"])])
        self.assertEqual(row_at(one, ()), tuple(dots))


class Outlines(Case):
    def test_several_deep(self):
        one = holding((A, ((), "b", 1)), (B, ((), "a", 2)), (C, (A, "z", 3)), (D, (A, "c", 4)), (E, (C, "y", 5)))
        within = (("c", 4, ()), ("z", 3, (("y", 5, ()),)))
        self.assertEqual(self.told(outline, one, ()), (("a", 2, ()), ("b", 1, within)))
        self.assertEqual(self.told(outline, one, A), within)
        self.assertEqual(self.told(outline, one, C), (("y", 5, ()),))
        for place in (B, E, FAR):
            self.assertEqual(self.told(outline, one, place), ())

    def test_without_what_isnt_shown(self):
        one = holding((A, (B, "a", 1)), (C, (C, "c", 1)), (D, ((), "d", 1)))
        self.assertEqual(outline(one, ()), (("d", 1, ()),))
        for place in (A, B, C):
            self.assertEqual(outline(one, place), ())

    def test_like_things_stand_there_twice(self):
        one = holding((A, ((), "a", 1)), (B, ((), "a", 1)), (C, (A, "c", 1)))
        self.assertEqual(outline(one, ()), (("a", 1, ()), ("a", 1, (("c", 1, ()),))))

    def test_the_same_things_by_other_dots(self):
        one = holding((A, ((), "a", 1)), (B, (A, "b", 2)), (C, (A, "c", 3)))
        other = holding((C, ((), "a", 1)), (FAR, (C, "b", 2)), (A, (C, "c", 3)))
        self.assertNotEqual(shown(one), shown(other))
        self.assertEqual(outline(one, ()), outline(other, ()))
        self.assertEqual(outline(one, A), outline(other, C))

    def test_one_thing_otherwise(self):
        rows = [(A, ((), "a", 1)), (B, (A, "b", 2)), (C, (A, "c", 3))]
        told = outline(holding(*rows), ())
        for others in [rows + [(D, ((), "d", 0))], rows + [(D, (A, "c", 3))], rows[:2], rows[:1] + rows[2:],
                       rows[:2] + [(C, (A, "d", 3))], rows[:2] + [(C, (A, "c", 4))], rows[:2] + [(C, (B, "c", 3))],
                       rows[:2] + [(C, ((), "c", 3))], rows[:2] + [(C, (D, "c", 3))]]:
            self.assertNotEqual(outline(holding(*others), ()), told)

    def test_far_deeper_than_calls_may_go(self):
        one = first_book((0,), 1)
        place = ()
        for _ in range(1500):
            one, place = put(one, (place, "a", 1))
        self.assertEqual(len(shown(one)), 1500)
        told, deep = outline(one, ()), 0
        while told:
            (name, value, told), deep = told[0], deep + 1
            self.assertEqual((name, value), ("a", 1))
        self.assertEqual(deep, 1500)


def is_shown(held, dot, seen=()):
    """[70] by another way: from within to within up to ()."""
    if dot == ():
        return True
    return dot in held and dot not in seen and is_shown(held, held[dot][0], (*seen, dot))


def outline_again(held, place):
    rows = [(thing[1], thing[2], outline_again(held, dot)) for dot, thing in held.items() if thing[0] == place]
    return tuple(sorted(rows))


class Drawn(Case):
    def drawn(self, number):
        draw = random.Random(number)
        dots = [A, B, C, D, E, FAR, ((1,), 1)]
        held = [dot for dot in dots if draw.random() < 0.8]
        return holding(*[(dot, (draw.choice([(), (), *dots]), draw.choice("ab"), draw.randint(-2, 2))) for dot in held])

    def test_drawn_books(self):
        many = hidden = 0
        books = [one for world in some_worlds(10) for one in books_in(world).values()]
        for one in [*[self.drawn(number) for number in range(400)], *books]:
            held = dict(one[5])
            rows = [(dot, thing) for dot, thing in one[5] if is_shown(held, dot)]
            self.assertEqual(self.told(shown, one), tuple(rows))
            for place in [(), *held, FAR]:
                here = [(dot, thing) for dot, thing in rows if thing[0] == place]
                self.assertEqual(standing(one, place), tuple(dot for dot, thing in here))
                self.assertEqual(names_at(one, place), tuple(sorted({thing[1] for dot, thing in here})))
                for name in "ab":
                    self.assertEqual(sum_at(one, place, name), sum(row[1][2] for row in here if row[1][1] == name))
                by_value = sorted(here, key=lambda row: row[1][2])
                self.assertEqual(row_at(one, place), tuple(dot for dot, thing in by_value))
                self.assertEqual(outline(one, place), outline_again(dict(rows), place))
            many += len(rows)
            hidden += len(held) - len(rows)
        self.assertGreater(min(many, hidden), 300)


if __name__ == "__main__":
    unittest.main()
