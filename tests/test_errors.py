import unittest

from backorder.errors import BadNumber, BadRings, BadRow, BadText, OrderError, Unlike


class Errors(unittest.TestCase):
    def test_the_base_is_straight_under_value_error(self):
        self.assertEqual(OrderError.__bases__, (ValueError,))

    def test_each_refusal_is_straight_under_the_base(self):
        for error in (BadRow, BadNumber, BadRings, Unlike, BadText):
            with self.subTest(error=error):
                self.assertEqual(error.__bases__, (OrderError,))

    def test_they_can_be_raised_with_words(self):
        for error in (OrderError, BadRow, BadNumber, BadRings, Unlike, BadText):
            with self.subTest(error=error):
                with self.assertRaises(ValueError) as caught:
                    raise error("words")
                self.assertEqual(str(caught.exception), "words")


if __name__ == "__main__":
    unittest.main()
