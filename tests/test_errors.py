import unittest

from helper import REFUSALS
from hexaddress.errors import FloorError


class Errors(unittest.TestCase):
    def test_any_refusal_is_a_value_error(self):
        self.assertEqual(FloorError.__bases__, (ValueError,))

    def test_each_refusal_stands_straight_under_floor_error(self):
        for refusal in REFUSALS:
            self.assertEqual(refusal.__bases__, (FloorError,))

    def test_no_refusal_is_another_one(self):
        for one in REFUSALS:
            for other in REFUSALS:
                self.assertEqual(issubclass(one, other), one == other)

    def test_names(self):
        names = [refusal.__name__ for refusal in (FloorError,) + REFUSALS]
        self.assertEqual(names, ["FloorError", "NoCell", "NoFigure", "NoLevel", "Apart"])

    def test_raised_with_words_of_ones_own(self):
        for refusal in REFUSALS:
            with self.assertRaises(FloorError) as caught:
                raise refusal("words")
            self.assertEqual(str(caught.exception), "words")


if __name__ == "__main__":
    unittest.main()
