import inspect
import unittest

from oddities import ODD
from windowcuts import errors

FIELDS = {
    "Wrong": ["place"], "Unlike": [], "TooLong": ["limit"], "NoToken": [], "Short": ["distance", "ahead"],
    "BadEdge": ["name"], "Unknown": ["name"], "Clash": ["name"], "NoRow": ["at"], "NoFill": ["at"],
    "TooFar": ["distance"], "NoEntry": ["at"], "NoPlace": ["edge", "index"], "Unsound": ["edge", "index"],
    "Unreached": ["name"], "NoLimit": [], "NoText": ["at"], "NoEdit": [], "Full": ["limit"], "Nothing": [],
    "NoCommand": [],
}


class Errors(unittest.TestCase):
    def test_all_are_there_and_no_others(self):
        found = [name for name, _ in inspect.getmembers(errors, inspect.isclass)]
        self.assertEqual(sorted(found), sorted(list(FIELDS) + ["WindowError"]))

    def test_places_under_window_error(self):
        self.assertEqual(errors.WindowError.__bases__, (ValueError,))
        for name in FIELDS:
            with self.subTest(name):
                self.assertEqual(getattr(errors, name).__bases__, (errors.WindowError,))
                self.assertEqual(getattr(errors, name).__module__, "windowcuts.errors")

    def test_fields_are_the_very_objects(self):
        for name, fields in FIELDS.items():
            for thing in ODD:
                values = [thing] + [[thing] for _ in fields[1:]]
                error = getattr(errors, name)(*values[:len(fields)])
                for field, value in zip(fields, values):
                    self.assertIs(getattr(error, field), value, name)

    def test_fields_may_be_named(self):
        for name, fields in FIELDS.items():
            values = {field: object() for field in fields}
            error = getattr(errors, name)(**values)
            for field in fields:
                self.assertIs(getattr(error, field), values[field], name)

    def test_what_is_kept_is_no_copy(self):
        things = [1]
        error = errors.Unknown(things)
        things.append(2)
        self.assertEqual(error.name, [1, 2])

    def test_caught_as_value_errors(self):
        for name, fields in FIELDS.items():
            for kind in (ValueError, errors.WindowError, getattr(errors, name)):
                with self.assertRaises(kind):
                    raise getattr(errors, name)(*[7 for _ in fields])

    def test_window_error_itself(self):
        with self.assertRaises(ValueError):
            raise errors.WindowError()


if __name__ == "__main__":
    unittest.main()
