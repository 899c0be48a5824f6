"""Promise 2: the errors."""

import unittest

from samples import any_values
from sketchways import errors

NAMES = (
    "BadCrossings", "BadStreets", "NoStop", "BadChoice", "BadFacts", "BadFact", "Told", "NotTold", "OtherNet",
    "BadNames", "Undrawn", "BadText", "TooMany", "BadState", "BadView", "BadFit", "BadStart", "BadGoal", "BadPlace",
    "BadFilling", "BadQuestion", "BadKnown", "BadWish", "BadOffers", "Finished", "NoWay", "NothingToUndo",
    "NothingToRedo", "BadLine",
)


class ErrorsTest(unittest.TestCase):
    def test_base(self):
        self.assertTrue(issubclass(errors.SketchError, ValueError))

    def test_each_is_directly_below_the_base(self):
        for name in NAMES:
            with self.subTest(name):
                self.assertEqual((errors.SketchError,), getattr(errors, name).__bases__)

    def test_each_has_its_own_class(self):
        self.assertEqual(len(NAMES), len({getattr(errors, name) for name in NAMES}))
        for name in NAMES:
            self.assertEqual((name, "sketchways.errors"),
                             (getattr(errors, name).__name__, getattr(errors, name).__module__))

    def test_value_is_kept_whatever_it_is(self):
        for name in NAMES + ("SketchError",):
            for value in any_values():
                with self.subTest(name, value=value):
                    error = getattr(errors, name)(value)
                    self.assertIs(value, error.value)

    def test_value_by_name(self):
        for name in NAMES + ("SketchError",):
            with self.subTest(name):
                value = [name]
                self.assertIs(value, getattr(errors, name)(value=value).value)

    def test_they_can_be_raised_and_caught(self):
        for name in NAMES:
            value = [name]
            for wider in (getattr(errors, name), errors.SketchError, ValueError):
                with self.subTest(name, wider=wider):
                    with self.assertRaises(wider) as context:
                        raise getattr(errors, name)(value)
                    self.assertIs(value, context.exception.value)


if __name__ == "__main__":
    unittest.main()
