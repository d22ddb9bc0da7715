"""The error classes of the interface."""

import inspect
import unittest

from marblefall import errors

PLAIN = (
    "NoBoard", "NoStand", "NoMoment", "NoWheel", "NotNow", "NoRow", "NoDrain", "NoDrops", "NoAgain", "NoNumber",
    "NoLinks", "NoMouths", "NoWord", "NotAlike", "NoFault", "NoSeen", "NoHands", "NoDeed", "NoLine",
)
WITH_FIELDS = ("NoText", "TooMany")


class ErrorsTest(unittest.TestCase):
    def test_marble_error_is_straight_under_value_error(self):
        self.assertEqual(errors.MarbleError.__bases__, (ValueError,))

    def test_each_other_one_is_straight_under_marble_error(self):
        for name in PLAIN + WITH_FIELDS:
            with self.subTest(name=name):
                self.assertEqual(getattr(errors, name).__bases__, (errors.MarbleError,))

    def test_the_classes_are_those_of_the_interface(self):
        classes = [name for name, worth in vars(errors).items() if inspect.isclass(worth)]
        self.assertEqual(sorted(classes), sorted(PLAIN + WITH_FIELDS + ("MarbleError",)))

    def test_each_is_a_class_of_its_own(self):
        self.assertEqual(len({getattr(errors, name) for name in PLAIN + WITH_FIELDS}), 21)

    def test_plain_ones_are_made_without_anything(self):
        for name in PLAIN + ("MarbleError",):
            with self.subTest(name=name):
                kind = getattr(errors, name)
                with self.assertRaises(kind):
                    raise kind()

    def test_no_text_by_place_and_by_name(self):
        for error in (errors.NoText(3), errors.NoText(line=3)):
            self.assertEqual(error.line, 3)
            self.assertIsInstance(str(error), str)
            with self.assertRaises(errors.NoText):
                raise error

    def test_too_many_by_place_and_by_name(self):
        made = (
            errors.TooMany(7, 6), errors.TooMany(7, most=6),
            errors.TooMany(many=7, most=6), errors.TooMany(most=6, many=7),
        )
        for error in made:
            self.assertEqual((error.many, error.most), (7, 6))
            self.assertIsInstance(str(error), str)
            with self.assertRaises(errors.TooMany):
                raise error

    def test_fields_can_not_be_left_out(self):
        self.assertRaises(TypeError, errors.NoText)
        self.assertRaises(TypeError, errors.TooMany, 7)


if __name__ == "__main__":
    unittest.main()
