"""0.3 and the interface: the classes of refusals."""

import unittest

from lineasks import errors

NAMES = ("NoFrame", "NoAsk", "NoStation", "NoNumber", "NoPlace", "Fixed",
         "NoAnswer", "NoText", "Full", "NoName", "Taken", "NoBack")


class Errors(unittest.TestCase):

    def test_line_error_is_a_value_error(self):
        self.assertTrue(issubclass(errors.LineError, ValueError))

    def test_all_stand_under_line_error(self):
        for name in NAMES:
            with self.subTest(name):
                made = getattr(errors, name)
                self.assertEqual(made.__name__, name)
                self.assertTrue(issubclass(made, errors.LineError))
                self.assertIsNot(made, errors.LineError)

    def test_none_stands_under_another(self):
        for name in NAMES:
            for other in NAMES:
                if name != other:
                    with self.subTest(name=name, other=other):
                        self.assertFalse(issubclass(getattr(errors, name), getattr(errors, other)))

    def test_they_can_be_raised_and_caught(self):
        for name in NAMES:
            with self.subTest(name):
                with self.assertRaises(errors.LineError):
                    raise getattr(errors, name)("why")


if __name__ == "__main__":
    unittest.main()
