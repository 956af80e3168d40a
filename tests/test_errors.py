"""The classes of the refusals."""

import unittest

from twinrooms import errors

NAMES = ["NoRoom", "NoDoor", "DoorThere", "TooMany", "BadSheet", "BadNote"]


class ErrorsTest(unittest.TestCase):

    def test_hall_error_is_a_value_error(self):
        self.assertEqual(errors.HallError.__bases__, (ValueError,))

    def test_each_refusal_is_a_hall_error_and_a_value_error(self):
        for name in NAMES:
            with self.subTest(name):
                self.assertEqual(getattr(errors, name).__bases__, (errors.HallError,))
                with self.assertRaises(errors.HallError):
                    raise getattr(errors, name)("words")
                with self.assertRaises(ValueError):
                    raise getattr(errors, name)("words")

    def test_none_stands_under_another(self):
        for one in NAMES:
            for other in NAMES:
                if one != other:
                    self.assertFalse(issubclass(getattr(errors, one), getattr(errors, other)), (one, other))

    def test_they_are_different_classes_of_their_own_names(self):
        self.assertEqual([getattr(errors, name).__name__ for name in NAMES], NAMES)
        self.assertEqual(len({getattr(errors, name) for name in NAMES}), len(NAMES))


if __name__ == "__main__":
    unittest.main()
