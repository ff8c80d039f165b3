"""[6]: the error classes."""

import unittest

from onlyheard import errors
from samples import ERROR_NAMES, wrong_values


class ErrorClasses(unittest.TestCase):
    def test_all_classes_of_the_interface_are_there_and_no_others(self):
        found = [name for name, value in vars(errors).items() if isinstance(value, type)]
        self.assertEqual(sorted(found), sorted(ERROR_NAMES + ["HeardError"]))
        self.assertEqual(len(ERROR_NAMES), 23)

    def test_bases(self):
        self.assertEqual(errors.HeardError.__bases__, (ValueError,))
        for name in ERROR_NAMES:
            self.assertEqual(getattr(errors, name).__bases__, (errors.HeardError,), name)

    def test_names_and_modules(self):
        for name in ERROR_NAMES + ["HeardError"]:
            self.assertEqual(getattr(errors, name).__name__, name)
            self.assertEqual(getattr(errors, name).__module__, "onlyheard.errors")

    def test_what_left_out(self):
        for name in ERROR_NAMES + ["HeardError"]:
            self.assertIsNone(getattr(errors, name)().what, name)

    def test_what_by_position_and_by_name(self):
        values = wrong_values() + [0, 400, (1, 0, 2), "text", ("pick", "a", 0)]
        for name in ERROR_NAMES + ["HeardError"]:
            kind = getattr(errors, name)
            for value in values:
                self.assertIs(kind(value).what, value)
                self.assertIs(kind(what=value).what, value)

    def test_one_parameter_only(self):
        for name in ERROR_NAMES + ["HeardError"]:
            with self.assertRaises(TypeError):
                getattr(errors, name)(1, 2)
            with self.assertRaises(TypeError):
                getattr(errors, name)(why=1)

    def test_caught_by_each_base(self):
        for name in ERROR_NAMES:
            for base in (getattr(errors, name), errors.HeardError, ValueError):
                with self.assertRaises(base) as caught:
                    raise getattr(errors, name)(7)
                self.assertEqual(caught.exception.what, 7)


if __name__ == "__main__":
    unittest.main()
