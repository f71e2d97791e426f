"""Promise 2: the exceptions."""

import unittest

from relume import errors
from relume.errors import BadCommand, BadNet, BadState, LightError, NotAllowed, OutOfRange, TooLong

SPECIAL = [BadNet, BadState, OutOfRange, NotAllowed, TooLong, BadCommand]


class ErrorsTest(unittest.TestCase):
    def test_names(self):
        for told in SPECIAL + [LightError]:
            self.assertIs(getattr(errors, told.__name__), told)
        names = [told.__name__ for told in SPECIAL]
        wanted = ["BadNet", "BadState", "OutOfRange", "NotAllowed", "TooLong", "BadCommand"]
        self.assertEqual(names, wanted)

    def test_light_error_is_directly_under_value_error(self):
        self.assertEqual(LightError.__bases__, (ValueError,))

    def test_others_are_directly_under_light_error(self):
        for told in SPECIAL:
            with self.subTest(told=told.__name__):
                self.assertEqual(told.__bases__, (LightError,))

    def test_classes_are_different(self):
        self.assertEqual(len(set(SPECIAL + [LightError])), 7)

    def test_text_is_returned(self):
        for told in SPECIAL + [LightError]:
            for text in ("dark", "", "two words", "line 3: 100\n"):
                with self.subTest(told=told.__name__, text=text):
                    self.assertEqual(str(told(text)), text)

    def test_caught_as_light_error_and_as_value_error(self):
        for told in SPECIAL + [LightError]:
            with self.subTest(told=told.__name__):
                with self.assertRaises(LightError):
                    raise told("text")
                with self.assertRaises(ValueError):
                    raise told("text")

    def test_no_class_is_caught_as_another_one(self):
        for told in SPECIAL:
            for other in SPECIAL:
                with self.subTest(told=told.__name__, other=other.__name__):
                    self.assertEqual(isinstance(told("text"), other), told is other)


if __name__ == "__main__":
    unittest.main()
