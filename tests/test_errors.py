"""The refusals as classes: 0.3 and the interface."""

import unittest

from kinnames import errors

REFUSALS = (
    "NoBook", "NoOrder", "NoName", "NoWish", "NoNumber", "NotMade", "TooShort", "Nothing", "NoText",
)


class Classes(unittest.TestCase):
    def test_like_error_is_a_value_error(self):
        self.assertEqual(errors.LikeError.__bases__, (ValueError,))

    def test_each_refusal_stands_straight_under_like_error(self):
        for name in REFUSALS:
            with self.subTest(name):
                self.assertEqual(getattr(errors, name).__bases__, (errors.LikeError,))

    def test_none_stands_under_another(self):
        for one in REFUSALS:
            for other in REFUSALS:
                if one != other:
                    self.assertFalse(issubclass(getattr(errors, one), getattr(errors, other)), (one, other))

    def test_they_are_called_as_they_are_named(self):
        for name in REFUSALS + ("LikeError",):
            self.assertEqual(getattr(errors, name).__name__, name)


if __name__ == "__main__":
    unittest.main()
