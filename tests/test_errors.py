"""[11] and the shape of errors in [3]."""

import inspect
import unittest

from turnedpixels import errors

WITH_FIELD = {
    "InvalidPixels": "index", "InvalidChain": "index", "InvalidWay": "index",
    "InvalidText": "place", "TooLarge": "limit", "Lost": "number",
}
WITH_TEXT = [
    "InvalidTurn", "InvalidLegs", "InvalidPixel", "InvalidRest", "InvalidOrder", "InvalidMatrix", "InvalidScale",
    "InvalidSix", "InvalidNumber", "InvalidCommand", "KeepsAll", "NothingToUndo",
]


class ErrorClasses(unittest.TestCase):
    def test_the_error_above_all(self):
        self.assertEqual(errors.TurnError.__bases__, (ValueError,))
        self.assertEqual(str(errors.TurnError("words")), "words")

    def test_each_is_directly_under_it_and_defined_there(self):
        for name in [*WITH_FIELD, *WITH_TEXT]:
            with self.subTest(name):
                found = getattr(errors, name)
                self.assertEqual(found.__bases__, (errors.TurnError,))
                self.assertEqual((found.__name__, found.__module__), (name, "turnedpixels.errors"))

    def test_there_are_no_others(self):
        names = [name for name, value in vars(errors).items() if inspect.isclass(value)]
        self.assertEqual(sorted(names), sorted(["TurnError", *WITH_FIELD, *WITH_TEXT]))

    def test_fields(self):
        for name, field in WITH_FIELD.items():
            for value in (None, 0, 1, 2000, 10 ** 15, 10 ** 100):
                with self.subTest(name, value=value):
                    found = getattr(errors, name)
                    self.assertEqual(getattr(found(value), field), value)
                    self.assertEqual(getattr(found(**{field: value}), field), value)
                    self.assertIsInstance(str(found(value)), str)
                    self.assertEqual(vars(found(value)), {field: value})
                    self.assertEqual(list(inspect.signature(found).parameters), [field])

    def test_a_field_is_needed_and_no_more(self):
        for name in WITH_FIELD:
            with self.subTest(name):
                self.assertRaises(TypeError, getattr(errors, name))
                self.assertRaises(TypeError, getattr(errors, name), 1, 2)

    def test_the_others_take_one_string(self):
        for name in WITH_TEXT:
            with self.subTest(name):
                error = getattr(errors, name)("some words")
                self.assertEqual((str(error), vars(error)), ("some words", {}))

    def test_they_are_caught_by_their_own_name_and_those_above(self):
        for name in [*WITH_FIELD, *WITH_TEXT]:
            for above in (getattr(errors, name), errors.TurnError, ValueError):
                with self.subTest(name, above=above), self.assertRaises(above):
                    raise getattr(errors, name)("a")

    def test_none_is_caught_by_the_name_of_another(self):
        for name in [*WITH_FIELD, *WITH_TEXT]:
            for other in [*WITH_FIELD, *WITH_TEXT]:
                if other != name:
                    self.assertFalse(issubclass(getattr(errors, name), getattr(errors, other)), (name, other))


if __name__ == "__main__":
    unittest.main()
