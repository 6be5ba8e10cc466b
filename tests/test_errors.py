"""The errors: their base class, and their fields in the order of the interface."""

import unittest

from sameroom import errors

FIELDS = {
    "BadText": ("at",), "BadLine": ("line",), "BadLibrary": ("program", "rule"),
    "ProcedureCycle": ("program", "names"), "UnknownProgram": ("name",), "BadCode": ("line",),
    "BadGraph": ("node",), "BadRotation": ("at",), "BadBook": ("rule",), "TooLarge": ("size",),
    "BadSnapshot": ("at",),
}


class ErrorTest(unittest.TestCase):
    def test_base(self):
        self.assertEqual(errors.RoomError.__bases__, (ValueError,))

    def test_all_are_direct_subclasses(self):
        found = {name for name, thing in vars(errors).items() if isinstance(thing, type)}
        self.assertEqual(found, {"RoomError", *FIELDS})
        for name in FIELDS:
            self.assertEqual(getattr(errors, name).__bases__, (errors.RoomError,))

    def test_fields_by_place_and_by_name(self):
        worths = (7, ("a", "b"))
        for name, fields in FIELDS.items():
            with self.subTest(name):
                made = getattr(errors, name)
                expected = dict(zip(fields, worths))
                self.assertEqual(vars(made(*worths[:len(fields)])), expected)
                self.assertEqual(vars(made(**expected)), expected)

    def test_very_large_numbers(self):
        for number in (10 ** 18, -10 ** 18, 10 ** 4299, 10 ** 4300, -10 ** 4300, -7 ** 9000):
            for name, fields in FIELDS.items():
                if name == "UnknownProgram":
                    continue
                worths = [number if field != "names" else ("a", "b") for field in fields]
                with self.subTest(name):
                    made = getattr(errors, name)
                    expected = dict(zip(fields, worths))
                    for error in (made(*worths), made(**expected)):
                        self.assertTrue(vars(error) == expected)
                        self.assertIn("very large", str(error))

    def test_messages_tell_numbers(self):
        for number in (-10 ** 18 + 1, -1, 0, 7, 10 ** 18 - 1):
            for name in sorted({*FIELDS} - {"UnknownProgram"}):
                made = getattr(errors, name)
                self.assertIn(str(number), str(made(number, *("x",) * (len(FIELDS[name]) - 1))))

    def test_messages_tell_something(self):
        for name, fields in FIELDS.items():
            self.assertNotEqual(str(getattr(errors, name)(*(3, 4)[:len(fields)])), "")


if __name__ == "__main__":
    unittest.main()
