"""Point [4] and the interface of pullworks/errors.py."""

import unittest

from pullworks import errors

FIELDS = {
    "InvalidTest": ["test"],
    "InvalidNet": ["at"],
    "InvalidName": ["name"],
    "InvalidBound": ["part"],
    "InvalidSchedule": ["at"],
    "InvalidEvent": ["number"],
    "InvalidCall": ["call"],
    "InvalidRecord": ["at"],
    "InvalidRule": ["rule"],
    "InvalidText": ["line", "word"],
    "LimitExceeded": ["limit"],
}


class ErrorTest(unittest.TestCase):

    def test_base(self):
        self.assertEqual(errors.PullError.__bases__, (ArithmeticError,))
        self.assertEqual(errors.PullError.__module__, "pullworks.errors")

    def test_direct_subclasses(self):
        for word in FIELDS:
            with self.subTest(word):
                made = getattr(errors, word)
                self.assertEqual(made.__bases__, (errors.PullError,))
                self.assertEqual(made.__module__, "pullworks.errors")

    def test_no_other_error(self):
        found = [word for word in vars(errors) if isinstance(getattr(errors, word), type)]
        self.assertEqual(sorted(found), sorted([*FIELDS, "PullError"]))

    def test_fields_by_position(self):
        for word, fields in FIELDS.items():
            with self.subTest(word):
                values = [object() for _ in fields]
                error = getattr(errors, word)(*values)
                for field, value in zip(fields, values):
                    self.assertIs(getattr(error, field), value)
                self.assertEqual(sorted(vars(error)), sorted(fields))

    def test_fields_by_name(self):
        for word, fields in FIELDS.items():
            with self.subTest(word):
                values = {field: [field] for field in fields}
                error = getattr(errors, word)(**values)
                for field in fields:
                    self.assertIs(getattr(error, field), values[field])

    def test_wrong_numbers_of_fields(self):
        for word, fields in FIELDS.items():
            with self.subTest(word):
                made = getattr(errors, word)
                with self.assertRaises(TypeError):
                    made()
                with self.assertRaises(TypeError):
                    made(*[1 for _ in fields], 1)

    def test_caught_as_pull_error(self):
        for word, fields in FIELDS.items():
            with self.subTest(word), self.assertRaises(errors.PullError):
                raise getattr(errors, word)(*fields)
        with self.assertRaises(ArithmeticError):
            raise errors.PullError()


if __name__ == "__main__":
    unittest.main()
