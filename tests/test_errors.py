import unittest

from sayhall import errors

NAMES = ["NoSayings", "NoSaying", "NoCase", "NoThing", "Clash", "Fits", "NotPlain", "NoKinds", "NoSentence", "NoText"]


class ErrorClasses(unittest.TestCase):
    def test_say_error_stands_straight_under_value_error(self):
        self.assertEqual(errors.SayError.__bases__, (ValueError,))

    def test_each_other_stands_straight_under_say_error(self):
        for name in NAMES:
            with self.subTest(name=name):
                self.assertEqual(getattr(errors, name).__bases__, (errors.SayError,))

    def test_none_stands_under_another(self):
        for name in NAMES:
            for other in NAMES:
                if name != other:
                    with self.subTest(name=name, other=other):
                        self.assertFalse(issubclass(getattr(errors, name), getattr(errors, other)))

    def test_each_bears_its_own_name(self):
        for name in NAMES + ["SayError"]:
            self.assertEqual(getattr(errors, name).__name__, name)

    def test_each_can_be_raised_and_taken_as_say_error(self):
        for name in NAMES:
            with self.subTest(name=name):
                with self.assertRaises(errors.SayError):
                    raise getattr(errors, name)("some words")


if __name__ == "__main__":
    unittest.main()
