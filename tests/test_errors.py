"""[5]: the classes of the refusals."""

import unittest

from tastehouse import errors

NAMES = (
    "NoHouse", "NoSpot", "NoRecipe", "NoTasting", "NoTurn", "NoOrder", "NoMishaps", "NoPick", "NoNumber", "NoList",
    "NoTruth", "NoWord", "NoText", "NoRow", "NoDeed", "NotSound", "NotThere", "NotDue", "TooMany",
)


class ErrorsTest(unittest.TestCase):
    def test_taste_error_stands_under_value_error(self):
        self.assertEqual(errors.TasteError.__bases__, (ValueError,))

    def test_each_stands_straight_under_taste_error(self):
        for name in NAMES:
            with self.subTest(name):
                self.assertEqual(getattr(errors, name).__bases__, (errors.TasteError,))

    def test_none_stands_under_another_one(self):
        for one in NAMES:
            for other in NAMES:
                if one != other:
                    with self.subTest(one=one, other=other):
                        self.assertFalse(issubclass(getattr(errors, one), getattr(errors, other)))

    def test_each_is_made_with_a_text(self):
        for name in NAMES + ("TasteError",):
            with self.subTest(name):
                self.assertEqual(str(getattr(errors, name)("some text")), "some text")


if __name__ == "__main__":
    unittest.main()
