"""The refusals: point 2 and the interface's row for errors.py."""

import inspect
import unittest

from bendtables import errors

PLAIN = ("NoText", "NoFit", "NoPlace", "TooMany", "NoName", "Taken", "Ring", "NoBack", "NoRow")
ALL = ("BendError",) + PLAIN + ("Crooked", "Used")


class ErrorsTest(unittest.TestCase):
    def test_all_twelve_are_there_and_no_others(self):
        found = [name for name, _ in inspect.getmembers(errors, inspect.isclass)]
        self.assertEqual(sorted(found), sorted(ALL))

    def test_bend_error_is_a_value_error(self):
        self.assertEqual(errors.BendError.__bases__, (ValueError,))

    def test_none_stands_under_another_one_but_bend_error(self):
        for name in ALL[1:]:
            self.assertEqual(getattr(errors, name).__bases__, (errors.BendError,), name)

    def test_plain_ones_are_made_with_a_text(self):
        for name in ALL[:-2]:
            error = getattr(errors, name)("why so")
            self.assertEqual(str(error), "why so")

    def test_crooked_has_row_and_column(self):
        error = errors.Crooked(3, 7)
        self.assertEqual((error.row, error.column), (3, 7))
        with self.assertRaises(ValueError):
            raise error

    def test_crooked_takes_both_fields(self):
        for fields in ((), (1,), (1, 2, 3)):
            with self.assertRaises(TypeError):
                errors.Crooked(*fields)

    def test_used_has_name(self):
        error = errors.Used("abc")
        self.assertEqual(error.name, "abc")
        with self.assertRaises(errors.BendError):
            raise error

    def test_each_says_something(self):
        self.assertNotEqual(str(errors.Crooked(0, 0)), "")
        self.assertNotEqual(str(errors.Used("a")), "")


if __name__ == "__main__":
    unittest.main()
