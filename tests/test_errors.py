import unittest

from deeprests import errors

REFUSALS = (
    "NoDepth", "NoInverse", "NoBall", "NoSingle", "TooDeep", "NoSmall",
    "NoParts", "NoPrime", "NoText", "NoName", "NoRow", "TooGreat",
)


class Errors(unittest.TestCase):
    def test_each_is_a_rest_error_and_a_value_error(self):
        self.assertTrue(issubclass(errors.RestError, ValueError))
        for name in REFUSALS:
            with self.subTest(name):
                self.assertTrue(issubclass(getattr(errors, name), errors.RestError))
                self.assertTrue(issubclass(getattr(errors, name), ValueError))

    def test_none_stands_under_another(self):
        for name in REFUSALS:
            for other in REFUSALS:
                if name != other:
                    with self.subTest(name=name, other=other):
                        self.assertFalse(issubclass(getattr(errors, name), getattr(errors, other)))

    def test_rest_error_stands_under_none_of_them(self):
        for name in REFUSALS:
            self.assertFalse(issubclass(errors.RestError, getattr(errors, name)))

    def test_each_can_be_raised_and_taken_by_name(self):
        for name in REFUSALS:
            kind = getattr(errors, name)
            with self.subTest(name), self.assertRaises(kind):
                raise kind("words")


if __name__ == "__main__":
    unittest.main()
