"""The interface of roadgaps/errors.py: which refusal stands under which."""

import unittest

from roadgaps.errors import BadText, Meets, NoGaps, NoRoad, RoadError, TooMany

REFUSALS = (NoRoad, NoGaps, TooMany, Meets, BadText)


class ErrorsTest(unittest.TestCase):
    def test_road_error_is_a_value_error(self):
        self.assertEqual(RoadError.__bases__, (ValueError,))

    def test_each_refusal_stands_under_road_error_and_value_error(self):
        for refusal in REFUSALS:
            with self.subTest(refusal=refusal.__name__):
                self.assertTrue(issubclass(refusal, RoadError))
                self.assertTrue(issubclass(refusal, ValueError))

    def test_no_refusal_stands_under_another(self):
        for one in REFUSALS:
            for other in REFUSALS:
                with self.subTest(one=one.__name__, other=other.__name__):
                    self.assertEqual(issubclass(one, other), one is other)

    def test_each_refusal_has_its_own_name(self):
        names = [refusal.__name__ for refusal in REFUSALS]
        self.assertEqual(names, ["NoRoad", "NoGaps", "TooMany", "Meets", "BadText"])

    def test_each_refusal_can_be_raised_with_words(self):
        for refusal in REFUSALS + (RoadError,):
            with self.subTest(refusal=refusal.__name__):
                with self.assertRaises(RoadError) as caught:
                    raise refusal("words")
                self.assertEqual(str(caught.exception), "words")


if __name__ == "__main__":
    unittest.main()
