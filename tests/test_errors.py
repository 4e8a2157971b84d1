"""The interface of apartbook.errors."""

import unittest

from apartbook import errors

FIELDS = {
    "NoText": ("place",),
    "NoName": ("name", "place"),
    "NotPlain": ("place",),
    "NoBook": (),
    "Broken": ("name",),
    "NoLine": ("line",),
    "NoDeed": ("name",),
    "NoRule": ("name",),
    "OutOfRange": (),
    "ShortShare": ("name", "lack"),
    "Folded": (),
    "NoPaper": ("line",),
}
VALUES = {"place": 7, "name": "corn", "line": 3, "lack": 10 ** 40}


class Errors(unittest.TestCase):
    def test_book_error_stands_under_value_error(self):
        self.assertEqual(errors.BookError.__bases__, (ValueError,))

    def test_each_refusal_stands_under_book_error_alone(self):
        for name in FIELDS:
            with self.subTest(name):
                self.assertEqual(getattr(errors, name).__bases__, (errors.BookError,))

    def test_each_refusal_is_made_by_its_fields_in_order_and_keeps_them(self):
        for name, fields in FIELDS.items():
            with self.subTest(name):
                made = getattr(errors, name)(*[VALUES[field] for field in fields])
                self.assertEqual(vars(made), {field: VALUES[field] for field in fields})

    def test_each_refusal_is_made_by_no_fewer_fields(self):
        for name, fields in FIELDS.items():
            if fields:
                with self.subTest(name), self.assertRaises(TypeError):
                    getattr(errors, name)(*[VALUES[field] for field in fields[1:]])

    def test_each_refusal_can_be_raised_and_taken_by_its_name_alone(self):
        for name, fields in FIELDS.items():
            with self.subTest(name):
                made = getattr(errors, name)(*[VALUES[field] for field in fields])
                for other in FIELDS:
                    self.assertEqual(isinstance(made, getattr(errors, other)), other == name)


if __name__ == "__main__":
    unittest.main()
