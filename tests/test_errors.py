"""Promise [5]: the errors."""

import unittest

from hearunlike import errors

WITH_VALUE = ["InvalidNumber", "InvalidList", "InvalidItem", "InvalidWeb", "InvalidSpot", "InvalidPlan",
              "InvalidNeeds", "InvalidHeard", "InvalidRule", "InvalidPrices", "InvalidText", "Taken", "Vacant"]
WITH_NAME = ["InvalidName", "TakenName", "UnknownName"]
VALUES = [None, True, 0, -7, 10 ** 19, "x", "", [], [1, [2]], (1, 2), {"a": 1}, errors.WatchError()]


class Errors(unittest.TestCase):
    def test_bases(self):
        self.assertEqual(errors.WatchError.__bases__, (ValueError,))
        for name in WITH_VALUE + WITH_NAME + ["NothingToUndo"]:
            self.assertEqual(getattr(errors, name).__bases__, (errors.WatchError,), name)

    def test_there_are_seventeen_and_no_other(self):
        found = [kind.__name__ for kind in errors.WatchError.__subclasses__()]
        self.assertEqual(sorted(found), sorted(WITH_VALUE + WITH_NAME + ["NothingToUndo"]))
        self.assertEqual(len(found), 17)

    def test_field_by_position_by_name_and_left_out(self):
        for field, names in (("value", WITH_VALUE), ("name", WITH_NAME)):
            for name in names:
                kind = getattr(errors, name)
                for value in VALUES:
                    self.assertIs(getattr(kind(value), field), value, name)
                    self.assertIs(getattr(kind(**{field: value}), field), value, name)
                self.assertIsNone(getattr(kind(), field), name)

    def test_only_the_field_of_the_table(self):
        for name in WITH_VALUE:
            self.assertFalse(hasattr(getattr(errors, name)(1), "name"), name)
        for name in WITH_NAME:
            self.assertFalse(hasattr(getattr(errors, name)("a"), "value"), name)

    def test_nothing_to_undo(self):
        found = errors.NothingToUndo()
        self.assertFalse(hasattr(found, "value"))
        self.assertFalse(hasattr(found, "name"))

    def test_caught_as_watch_error_and_as_value_error(self):
        for kind in errors.WatchError.__subclasses__():
            for caught in (errors.WatchError, ValueError):
                with self.assertRaises(caught):
                    raise kind()


if __name__ == "__main__":
    unittest.main()
