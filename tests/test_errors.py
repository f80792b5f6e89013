"""The refusals of stylehouse.errors, and how they stand to one another."""

import unittest

from stylehouse import errors
from stylehouse.errors import HouseError

REFUSALS = (
    "NoFraction", "NoBox", "Rooted", "NoPlace", "NoName", "TooMuch",
    "NoRule", "NoValue", "Unsettled", "NoText", "NoRow",
)


def refusal(name):
    return getattr(errors, name)


class RefusalsTest(unittest.TestCase):
    def test_house_error_is_a_value_error(self):
        self.assertTrue(issubclass(HouseError, ValueError))
        with self.assertRaises(ValueError):
            raise HouseError("any refusal")

    def test_there_are_just_eleven_beneath_house_error(self):
        told = [
            name for name, thing in vars(errors).items()
            if isinstance(thing, type) and issubclass(thing, HouseError) and thing is not HouseError
        ]
        self.assertEqual(sorted(told), sorted(REFUSALS))

    def test_each_is_taken_by_its_own_class_and_those_above(self):
        for name in REFUSALS:
            for taker in (refusal(name), HouseError, ValueError):
                with self.subTest(name=name, taker=taker.__name__):
                    with self.assertRaises(taker):
                        raise refusal(name)("words")

    def test_each_is_taken_by_none_of_the_other_ten(self):
        for name in REFUSALS:
            others = [refusal(other) for other in REFUSALS if other != name]
            self.assertEqual(len(others), 10)
            for other in others:
                with self.subTest(name=name, other=other.__name__):
                    self.assertFalse(isinstance(refusal(name)("words"), other))

    def test_house_error_is_taken_by_none_of_them(self):
        for name in REFUSALS:
            with self.subTest(name=name):
                self.assertFalse(isinstance(HouseError("words"), refusal(name)))

    def test_they_are_made_with_words_and_without(self):
        for name in REFUSALS:
            with self.subTest(name=name):
                self.assertEqual(str(refusal(name)("some words")), "some words")
                self.assertIsInstance(refusal(name)(), refusal(name))


if __name__ == "__main__":
    unittest.main()
