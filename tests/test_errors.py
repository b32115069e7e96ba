"""The refusals, as the interface lists them."""

import unittest

from untoldprimes.errors import NoCommand, NoPrime, NoRest, NoText, PrimeError

REFUSALS = (NoRest, NoPrime, NoText, NoCommand)


class Refusals(unittest.TestCase):
    def test_prime_error_is_a_value_error(self):
        self.assertEqual(PrimeError.__bases__, (ValueError,))

    def test_each_refusal_is_a_prime_error(self):
        for refusal in REFUSALS:
            self.assertTrue(issubclass(refusal, PrimeError))
            self.assertIsNot(refusal, PrimeError)

    def test_none_stands_under_another(self):
        for one in REFUSALS:
            for other in REFUSALS:
                if one is not other:
                    self.assertFalse(issubclass(one, other))

    def test_each_is_raised_with_words(self):
        for refusal in (PrimeError,) + REFUSALS:
            with self.assertRaises(PrimeError) as caught:
                raise refusal("words")
            self.assertEqual(str(caught.exception), "words")


if __name__ == "__main__":
    unittest.main()
