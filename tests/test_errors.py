"""Promise 0.3: the refusals and how they stand to one another."""

import unittest

from askwright import errors
from askwright.errors import BadText, WrightError

OF_A_TEXT = ("BadTree", "BadName", "BadRule", "NoAsk", "BadAnswer",
             "NoThing", "BadThing", "Clash", "BadKeep", "NoDeed")


class Refusals(unittest.TestCase):
    def test_the_one_above_all(self):
        self.assertEqual(WrightError.__bases__, (ValueError,))

    def test_each_is_straight_beneath(self):
        for name in OF_A_TEXT + ("BadText",):
            self.assertEqual(getattr(errors, name).__bases__, (WrightError,), name)

    def test_none_is_beneath_another(self):
        kinds = [getattr(errors, name) for name in OF_A_TEXT + ("BadText",)]
        for one in kinds:
            for other in kinds:
                self.assertEqual(issubclass(one, other), one is other)

    def test_made_of_a_text(self):
        for name in OF_A_TEXT:
            refusal = getattr(errors, name)("some words")
            self.assertEqual(str(refusal), "some words")
            with self.assertRaises(WrightError):
                raise refusal

    def test_bad_text_is_made_of_a_number(self):
        for number in (1, 7, 10 ** 29):
            refusal = BadText(number)
            self.assertEqual(refusal.row, number)
            with self.assertRaises(BadText) as caught:
                raise refusal
            self.assertEqual(caught.exception.row, number)


if __name__ == "__main__":
    unittest.main()
