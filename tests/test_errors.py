"""The errors: their places in the family and their attributes."""

import unittest

from ownlabels import errors

BARE = ["BadNumbering", "BadSize", "NotEnough", "RoomFull", "AlreadyInside", "NotInside",
        "NoObstacle", "NotStandard"]
WITH_ATTRIBUTE = {
    "BadInstruction": ("instruction", "jump 3"),
    "BadProgram": ("line", 7),
    "NoWorker": ("worker", -3),
    "NoCell": ("cell", 10 ** 59),
    "Held": ("holder", 2),
    "TooMany": ("most", 4000),
}


class FamilyTest(unittest.TestCase):
    def test_base_class(self):
        self.assertEqual(errors.HallError.__bases__, (ValueError,))

    def test_all_others_stand_directly_under_it(self):
        for name in [*BARE, *WITH_ATTRIBUTE]:
            with self.subTest(name=name):
                self.assertEqual(getattr(errors, name).__bases__, (errors.HallError,))

    def test_defined_in_this_file(self):
        for name in ["HallError", *BARE, *WITH_ATTRIBUTE]:
            with self.subTest(name=name):
                self.assertEqual(getattr(errors, name).__module__, "ownlabels.errors")
                self.assertEqual(getattr(errors, name).__name__, name)

    def test_each_is_caught_as_hall_error_and_as_value_error(self):
        for name in BARE:
            for base in (errors.HallError, ValueError):
                with self.subTest(name=name, base=base), self.assertRaises(base):
                    raise getattr(errors, name)("why")
        for name, (_, value) in WITH_ATTRIBUTE.items():
            for base in (errors.HallError, ValueError):
                with self.subTest(name=name, base=base), self.assertRaises(base):
                    raise getattr(errors, name)(value)


class AttributeTest(unittest.TestCase):
    def test_attribute(self):
        for name, (attribute, value) in WITH_ATTRIBUTE.items():
            with self.subTest(name=name):
                error = getattr(errors, name)(value)
                self.assertEqual(getattr(error, attribute), value)
                self.assertEqual(list(vars(error)), [attribute])

    def test_each_object_has_its_own_attribute(self):
        first = errors.NoCell(1)
        second = errors.NoCell(2)
        self.assertEqual((first.cell, second.cell), (1, 2))

    def test_each_has_a_message(self):
        for name, (_, value) in WITH_ATTRIBUTE.items():
            with self.subTest(name=name):
                self.assertIn(str(value), str(getattr(errors, name)(value)))


if __name__ == "__main__":
    unittest.main()
