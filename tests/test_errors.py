"""unjump.errors: the interface's section on it, and the fields of its classes."""

import unittest

from unjump import errors

NAMES = ("ByNought", "NoRow", "NoJump", "NoEnd", "TooGreat", "NoForm", "TwoWays", "NoWay")
CLASSES = [getattr(errors, name) for name in NAMES]


class StandingTest(unittest.TestCase):
    def test_each_stands_straight_under_jump_error(self):
        for kind in CLASSES:
            with self.subTest(kind=kind):
                self.assertEqual(kind.__bases__, (errors.JumpError,))

    def test_jump_error_stands_straight_under_value_error(self):
        self.assertEqual(errors.JumpError.__bases__, (ValueError,))

    def test_none_stands_under_another(self):
        for kind in CLASSES:
            for other in CLASSES:
                with self.subTest(kind=kind, other=other):
                    self.assertEqual(issubclass(kind, other), kind.__name__ == other.__name__)

    def test_there_are_eight_each_called_by_its_name(self):
        self.assertEqual(tuple(kind.__name__ for kind in CLASSES), NAMES)
        self.assertEqual(len(set(CLASSES)), 8)


class RowTest(unittest.TestCase):
    def test_made_without_a_row(self):
        for kind in [errors.JumpError] + CLASSES:
            with self.subTest(kind=kind):
                self.assertIsNone(kind().row)

    def test_made_with_a_row(self):
        for kind in [errors.JumpError] + CLASSES:
            for row in (0, 1, 79, 100000):
                with self.subTest(kind=kind, row=row):
                    self.assertEqual(kind(row).row, row)
                    self.assertIs(type(kind(row).row), int)
                    self.assertEqual(kind(row=row).row, row)

    def test_made_with_none(self):
        for kind in [errors.JumpError] + CLASSES:
            with self.subTest(kind=kind):
                self.assertIsNone(kind(None).row)
                self.assertIsNone(kind(row=None).row)

    def test_each_object_has_its_own_row(self):
        one, other = errors.NoRow(3), errors.NoRow(5)
        one.row = 4
        self.assertEqual((one.row, other.row, errors.NoRow().row), (4, 5, None))

    def test_no_more_than_a_row_is_taken(self):
        for kind in [errors.JumpError] + CLASSES:
            with self.subTest(kind=kind):
                self.assertRaises(TypeError, kind, 1, 2)


class CatchingTest(unittest.TestCase):
    def test_caught_by_its_own_name_and_those_above(self):
        for kind in CLASSES:
            for caught in (kind, errors.JumpError, ValueError, Exception):
                with self.subTest(kind=kind, caught=caught):
                    with self.assertRaises(caught) as context:
                        raise kind(7)
                    self.assertEqual(context.exception.row, 7)
                    self.assertIs(type(context.exception), kind)

    def test_caught_by_no_other_one(self):
        for kind in CLASSES:
            others = tuple(other for other in CLASSES if other != kind)
            with self.subTest(kind=kind):
                self.assertEqual(self.catch(kind, others), "not among them")

    def catch(self, kind, others):
        try:
            raise kind()
        except others:
            return "among them"
        except errors.JumpError:
            return "not among them"


if __name__ == "__main__":
    unittest.main()
