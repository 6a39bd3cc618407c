"""Point [3]: the errors."""

import unittest

from allscales import errors

FIELDS = {
    "BadText": ("line", "column"), "BadNumber": ("what", "number"), "BadName": ("name",), "BadMatrix": ("what",),
    "Unlike": ("place", "one", "other"), "ByZero": ("place",), "NotPower": ("place",), "HasIf": ("name",),
    "NoUnit": ("name",), "NoName": ("name",), "TakenName": ("name",), "TooDeep": ("limit",),
    "TooMany": ("what", "many", "limit"), "TooLarge": ("what", "number", "limit"), "NotWhole": ("what",),
    "Contradicted": ("first", "second"), "NotKept": ("promise", "witness"), "NothingToUndo": (), "NothingToRedo": (),
}
VALUES = (0, 1, -7, 10 ** 500, True, None, "", "m", (1, 2), [1, [2]], {"a": [1]}, b"x", 0.5, object(), ValueError)


class Errors(unittest.TestCase):
    def test_all_are_there(self):
        self.assertEqual(len(FIELDS), 19)
        for name in FIELDS:
            self.assertEqual(getattr(errors, name).__module__, "allscales.errors")

    def test_scale_error(self):
        self.assertTrue(issubclass(errors.ScaleError, ValueError))
        self.assertEqual(errors.ScaleError.__bases__, (ValueError,))
        self.assertIsInstance(errors.ScaleError("why"), ValueError)

    def test_each_derives_from_scale_error_alone(self):
        for name in FIELDS:
            self.assertEqual(getattr(errors, name).__bases__, (errors.ScaleError,))
            for other in FIELDS:
                self.assertEqual(issubclass(getattr(errors, name), getattr(errors, other)), name == other)

    def test_fields_are_kept_in_order(self):
        for name, fields in FIELDS.items():
            for start in range(len(VALUES)):
                given = [VALUES[(start + 4 * at) % len(VALUES)] for at in range(len(fields))]
                error = getattr(errors, name)(*given)
                for field, value in zip(fields, given):
                    self.assertIs(getattr(error, field), value)

    def test_fields_by_name(self):
        for name, fields in FIELDS.items():
            error = getattr(errors, name)(**{field: [field] for field in fields})
            self.assertEqual([getattr(error, field) for field in fields], [[field] for field in fields])

    def test_number_of_fields(self):
        for name, fields in FIELDS.items():
            if fields:
                with self.assertRaises(TypeError):
                    getattr(errors, name)(*range(len(fields) - 1))
                with self.assertRaises(TypeError):
                    getattr(errors, name)(*range(len(fields) + 1))

    def test_raised_and_caught(self):
        for name, fields in FIELDS.items():
            with self.assertRaises(errors.ScaleError) as caught:
                raise getattr(errors, name)(*fields)
            self.assertEqual(tuple([getattr(caught.exception, field) for field in fields]), fields)
            self.assertIsInstance(str(caught.exception), str)


if __name__ == "__main__":
    unittest.main()
