"""Tests of [4]: the errors."""

import unittest

from sitout import errors
from tests.samples import values

WITH_WORD = ("InvalidRule", "InvalidRoad")
WITH_AT = ("InvalidEvent", "InvalidText", "InvalidSeen", "Refused")
WITH_NOTHING = ("InvalidGoal", "InvalidWhat", "InvalidCommand")


class Classes(unittest.TestCase):
    def test_the_base_is_a_value_error(self):
        self.assertEqual(errors.SitError.__bases__, (ValueError,))

    def test_each_derives_from_sit_error_directly(self):
        for name in WITH_WORD + WITH_AT + WITH_NOTHING:
            with self.subTest(name):
                self.assertEqual(getattr(errors, name).__bases__, (errors.SitError,))

    def test_no_event_is_an_index_error_and_no_sit_error(self):
        self.assertEqual(errors.NoEvent.__bases__, (IndexError,))
        self.assertFalse(issubclass(errors.NoEvent, (errors.SitError, ValueError)))

    def test_none_is_derived_from_another_one(self):
        names = WITH_WORD + WITH_AT + WITH_NOTHING + ("NoEvent",)
        for name in names:
            for other in names:
                with self.subTest(name=name, other=other):
                    inherits = issubclass(getattr(errors, name), getattr(errors, other))
                    self.assertEqual(inherits, name == other)

    def test_the_names_are_those_of_the_classes(self):
        for name in ("SitError", "NoEvent") + WITH_WORD + WITH_AT + WITH_NOTHING:
            self.assertEqual(getattr(errors, name).__name__, name)


class Arguments(unittest.TestCase):
    def kept(self, name, attribute):
        made = getattr(errors, name)
        for thing in values() + [{"a": 1}, object(), "none"]:
            with self.subTest(name=name, thing=thing):
                self.assertIs(getattr(made(thing), attribute), thing)
                self.assertIs(getattr(made(**{attribute: thing}), attribute), thing)

    def test_a_word_is_kept_itself(self):
        for name in WITH_WORD:
            self.kept(name, "word")

    def test_a_number_is_kept_itself(self):
        for name in WITH_AT + ("NoEvent",):
            self.kept(name, "at")

    def test_a_list_is_kept_and_not_copied(self):
        things = ["a"]
        error = errors.InvalidEvent(things)
        things.append("b")
        self.assertEqual(error.at, ["a", "b"])
        self.assertIsInstance(error.at, list)

    def test_some_take_no_argument(self):
        for name in WITH_NOTHING:
            with self.subTest(name):
                self.assertIsInstance(getattr(errors, name)(), errors.SitError)

    def test_the_argument_has_no_default(self):
        for name in WITH_WORD + WITH_AT + ("NoEvent",):
            with self.subTest(name), self.assertRaises(TypeError):
                getattr(errors, name)()

    def test_each_can_be_raised_and_caught(self):
        for name in WITH_WORD + WITH_AT:
            with self.subTest(name), self.assertRaises(errors.SitError):
                raise getattr(errors, name)(3)
        for name in WITH_NOTHING:
            with self.subTest(name), self.assertRaises(ValueError):
                raise getattr(errors, name)()
        with self.assertRaises(IndexError):
            raise errors.NoEvent(3)

    def test_an_error_is_not_iterable(self):
        for error in (errors.SitError(), errors.InvalidRule([1]), errors.Refused((1, 2)), errors.NoEvent("ab")):
            with self.assertRaises(TypeError):
                iter(error)


if __name__ == "__main__":
    unittest.main()
