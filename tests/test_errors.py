"""The refusals, [2] and the interface's first entry."""

import copy
import unittest

from gonemarks import errors

FIELDS = {
    "NoBook": ("word", "place"),
    "NoDeed": ("word",),
    "NoLines": ("row",),
    "NoPaper": ("word", "place"),
    "NoBack": ("word",),
    "NoWorld": ("word", "place"),
    "NoMeeting": ("word",),
    "NoRow": ("row",),
}


class Errors(unittest.TestCase):
    def test_base_stands_straight_under_value_error(self):
        self.assertEqual(errors.GoneError.__bases__, (ValueError,))
        with self.assertRaises(ValueError):
            raise errors.GoneError("why")

    def test_each_stands_straight_under_the_base(self):
        for name in FIELDS:
            self.assertEqual(getattr(errors, name).__bases__, (errors.GoneError,), name)

    def test_there_are_just_these(self):
        told = [name for name, what in vars(errors).items() if isinstance(what, type)]
        self.assertEqual(sorted(told), sorted([*FIELDS, "GoneError"]))

    def test_fields_are_the_very_things(self):
        things = [["a", [1]], ("b", (2,)), 10 ** 3999, None, True, "word", -1, [], ()]
        for name, fields in FIELDS.items():
            for first in things:
                for second in things:
                    made_of = (first, second)[:len(fields)]
                    made = getattr(errors, name)(*made_of)
                    for field, thing in zip(fields, made_of):
                        self.assertIs(getattr(made, field), thing)
                    self.assertEqual(sorted(vars(made)), sorted(fields))

    def test_each_is_caught_as_value_error_and_as_itself_alone(self):
        for name, fields in FIELDS.items():
            own = getattr(errors, name)
            for caught in (ValueError, errors.GoneError, own):
                with self.assertRaises(caught):
                    raise own(*["x", 3][:len(fields)])
            for other in FIELDS:
                if other != name:
                    self.assertFalse(issubclass(own, getattr(errors, other)))

    def test_each_takes_just_its_fields(self):
        for name, fields in FIELDS.items():
            for many in range(4):
                if many != len(fields):
                    with self.assertRaises(TypeError):
                        getattr(errors, name)(*["x"] * many)

    def test_texts_and_copies_of_them_can_be_made(self):
        for name, fields in FIELDS.items():
            made = getattr(errors, name)(*[10 ** 3999, [1, (2,)]][:len(fields)])
            self.assertIsInstance(str(made), str)
            self.assertIsInstance(repr(made), str)
            again = copy.deepcopy(made)
            self.assertEqual(vars(again), vars(made))


if __name__ == "__main__":
    unittest.main()
