"""The refusals, as the interface tells them."""

import unittest

from lostblock import errors

FIELDS = {
    "NoSet": ("row",),
    "NoBench": ("row",),
    "NoPicture": ("row",),
    "NoStack": ("colour", "column", "row"),
    "Kept": ("column", "row"),
    "NoDeed": ("at",),
    "NoPlan": ("row",),
    "TooMany": (),
    "NoName": (),
    "Twice": (),
    "Order": (),
    "Wrong": ("column", "row"),
    "NoStroke": (),
    "NoRow": (),
}
VALUES = {"row": 5, "column": 7, "at": 11, "colour": "red"}


def refusal(name):
    return getattr(errors, name)


class Refusals(unittest.TestCase):
    def test_block_error_stands_straight_under_value_error(self):
        self.assertEqual(errors.BlockError.__bases__, (ValueError,))

    def test_there_are_fourteen_and_each_stands_under_block_error(self):
        self.assertEqual(len(FIELDS), 14)
        for name in FIELDS:
            self.assertTrue(issubclass(refusal(name), errors.BlockError), name)
            self.assertTrue(issubclass(refusal(name), ValueError), name)
            self.assertIsNot(refusal(name), errors.BlockError, name)

    def test_none_stands_under_another_one(self):
        for name in FIELDS:
            for other in FIELDS:
                if name != other:
                    self.assertFalse(issubclass(refusal(name), refusal(other)), (name, other))

    def test_each_bears_its_name(self):
        for name in FIELDS:
            self.assertEqual(refusal(name).__name__, name)

    def test_made_by_the_fields_in_order_and_keeps_them(self):
        for name, fields in FIELDS.items():
            made = refusal(name)(*[VALUES[field] for field in fields])
            for field in fields:
                self.assertEqual(getattr(made, field), VALUES[field], (name, field))

    def test_fields_are_each_object_s_own(self):
        first = errors.Kept(1, 2)
        second = errors.Kept(3, 4)
        self.assertEqual((first.column, first.row), (1, 2))
        self.assertEqual((second.column, second.row), (3, 4))

    def test_fields_must_be_told(self):
        for name, fields in FIELDS.items():
            if fields:
                with self.assertRaises(TypeError):
                    refusal(name)()

    def test_raised_and_taken_as_block_error_with_the_fields(self):
        for name, fields in FIELDS.items():
            with self.assertRaises(errors.BlockError) as taken:
                raise refusal(name)(*[VALUES[field] for field in fields])
            for field in fields:
                self.assertEqual(getattr(taken.exception, field), VALUES[field])


if __name__ == "__main__":
    unittest.main()
