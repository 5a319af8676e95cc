"""[11], [4]: the errors."""
import unittest

from nightstairs import errors

FIELDS = {
    "Wrong": ("place",), "NoText": ("line",), "NoCar": ("name",), "NoCable": ("start", "end"), "NoPart": ("name",),
    "TooMany": ("most",), "PowerCut": (), "NoCommand": (), "Short": ("hours",),
}


class Errors(unittest.TestCase):
    def test_each_keeps_the_objects_it_was_made_from(self):
        for name, fields in FIELDS.items():
            for make in (lambda: [], lambda: {"a": [1]}, object, lambda: None, lambda: ("x",), lambda: ValueError(1)):
                things = [make() for _ in fields]
                error = getattr(errors, name)(*things)
                for field, thing in zip(fields, things):
                    self.assertIs(getattr(error, field), thing)

    def test_nothing_is_copied(self):
        row = []
        error = errors.NoCable(row, 2)
        row.append(1)
        self.assertEqual((error.start, error.end), ([1], 2))

    def test_each_is_a_night_error_and_no_other_one(self):
        for name, fields in FIELDS.items():
            kind = getattr(errors, name)
            self.assertEqual(kind.__bases__, (errors.NightError,))
            error = kind(*[0 for _ in fields])
            self.assertIsInstance(error, ValueError)
            for other in FIELDS:
                self.assertEqual(isinstance(error, getattr(errors, other)), other == name)

    def test_night_error(self):
        self.assertEqual(errors.NightError.__bases__, (ValueError,))
        self.assertIsInstance(errors.NightError(), ValueError)

    def test_the_number_of_arguments(self):
        for name, fields in FIELDS.items():
            if fields:
                with self.assertRaises(TypeError):
                    getattr(errors, name)(*([0] * (len(fields) + 1)))
                with self.assertRaises(TypeError):
                    getattr(errors, name)(*([0] * (len(fields) - 1)))

    def test_they_can_be_raised_and_caught(self):
        for name, fields in FIELDS.items():
            with self.assertRaises(errors.NightError):
                raise getattr(errors, name)(*[[] for _ in fields])


if __name__ == "__main__":
    unittest.main()
