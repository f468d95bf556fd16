"""The refusals and how they stand to one another."""

import unittest

from boardkin import errors

NAMES = ["NoBoard", "NoKinship", "NotSquare", "UnlikeSizes", "TooMany", "BadNumbers", "BadNote"]


class Errors(unittest.TestCase):
    def test_kin_error_stands_under_value_error(self):
        self.assertTrue(issubclass(errors.KinError, ValueError))

    def test_each_stands_under_kin_error(self):
        for name in NAMES:
            with self.subTest(name=name):
                error = getattr(errors, name)
                self.assertTrue(issubclass(error, errors.KinError))
                self.assertIsNot(error, errors.KinError)
                self.assertEqual(error.__name__, name)

    def test_none_stands_under_another(self):
        for one in NAMES:
            for other in NAMES:
                if one != other:
                    with self.subTest(one=one, other=other):
                        self.assertFalse(issubclass(getattr(errors, one), getattr(errors, other)))

    def test_each_can_be_raised_and_taken_as_any_refusal(self):
        for name in NAMES:
            with self.subTest(name=name):
                with self.assertRaises(errors.KinError):
                    raise getattr(errors, name)("refused")
                with self.assertRaises(ValueError):
                    raise getattr(errors, name)("refused")


if __name__ == "__main__":
    unittest.main()
