"""Tests of kimariji.errors: the classes of the interface and their fields."""

import unittest

from kimariji import errors

PLAIN = (
    "NoPart BadBook NoVerse BadDeal NoField NoCard NoPlace Full NoSide ReadAlready NotRead NotDue Reading "
    "AllSaid TooEarly GiftDue Over BadName Taken NoBook NoTable NothingLeft"
).split()
WITH_FIELDS = {"BadVerse": ("row",), "Alike": ("one", "other"), "BadPlan": ("place",), "BadText": ("row",)}
ALL = PLAIN + list(WITH_FIELDS)


class TestErrors(unittest.TestCase):
    def test_any_refusal_is_a_value_error(self):
        self.assertEqual(errors.SnatchError.__bases__, (ValueError,))
        self.assertIsInstance(errors.SnatchError("why"), ValueError)

    def test_each_is_a_snatch_error_and_none_of_the_others(self):
        for name in ALL:
            one = getattr(errors, name)
            self.assertTrue(issubclass(one, errors.SnatchError), name)
            self.assertTrue(issubclass(one, ValueError), name)
            for other in ALL:
                if other != name:
                    self.assertFalse(issubclass(one, getattr(errors, other)), (name, other))

    def test_each_is_a_class_of_its_own_under_its_name(self):
        self.assertEqual(len(ALL), 26)
        self.assertEqual([getattr(errors, name).__name__ for name in ALL], ALL)

    def test_plain_ones_can_be_raised(self):
        for name in PLAIN:
            with self.assertRaises(getattr(errors, name)):
                raise getattr(errors, name)("why")

    def test_fields_are_set_by_position_and_by_name(self):
        for name, fields in WITH_FIELDS.items():
            worths = list(range(5, 5 + len(fields)))
            by_position = getattr(errors, name)(*worths)
            by_name = getattr(errors, name)(**dict(zip(fields, worths)))
            for error in (by_position, by_name):
                self.assertEqual([getattr(error, field) for field in fields], worths, name)

    def test_fields_belong_to_the_object(self):
        first, second = errors.Alike(0, 3), errors.Alike(1, 2)
        self.assertEqual((first.one, first.other, second.one, second.other), (0, 3, 1, 2))


if __name__ == "__main__":
    unittest.main()
