"""Promise 14: sums of primes and of their squares."""

import unittest

from tests.helper import by_hand, by_marks
from untoldprimes.sums import sum_of_primes, sum_of_squares

GREAT = 10 ** 7
LAST = 9999991


def sums_by_marks(bound):
    primes = [prime for prime in by_marks(GREAT) if prime <= bound]
    return sum(primes), sum(prime * prime for prime in primes)


class Sums(unittest.TestCase):
    def test_the_least_bounds(self):
        self.assertEqual([sum_of_primes(bound) for bound in range(6)], [0, 0, 2, 5, 5, 10])
        self.assertEqual([sum_of_squares(bound) for bound in range(6)], [0, 0, 4, 13, 13, 38])

    def test_ten_and_a_hundred(self):
        self.assertEqual(sum_of_primes(10), 17)
        self.assertEqual(sum_of_squares(10), 87)
        self.assertEqual(sum_of_primes(100), 1060)
        self.assertEqual(sum_of_squares(100), 65796)

    def test_each_bound_to_some_thousands(self):
        primes = set(by_hand(3500))
        total = squares = 0
        for bound in range(3501):
            if bound in primes:
                total += bound
                squares += bound * bound
            self.assertEqual(sum_of_primes(bound), total)
            self.assertEqual(sum_of_squares(bound), squares)

    def test_known_sums(self):
        self.assertEqual(sum_of_primes(2 * 10 ** 6), 142913828922)
        self.assertEqual(sum_of_primes(10 ** 6), 37550402023)
        self.assertEqual(sum_of_primes(GREAT), 3203324994356)

    def test_great_bounds_by_marks(self):
        for bound in (10 ** 4, 10 ** 5, 10 ** 6, 997 ** 2, 997 ** 2 - 1, 3137 ** 2, 3137 ** 2 + 1, 7654321, LAST, GREAT):
            self.assertEqual((sum_of_primes(bound), sum_of_squares(bound)), sums_by_marks(bound))

    def test_growing_just_at_a_prime(self):
        primes = set(by_marks(GREAT))
        for start in (90, 997 ** 2 - 12, 3137 ** 2 - 12, GREAT - 20):
            total, squares = sum_of_primes(start), sum_of_squares(start)
            for bound in range(start + 1, start + 21):
                if bound in primes:
                    total += bound
                    squares += bound * bound
                self.assertEqual(sum_of_primes(bound), total)
                self.assertEqual(sum_of_squares(bound), squares)

    def test_somewhat_beyond(self):
        self.assertEqual(sum_of_primes(10000019) - sum_of_primes(GREAT), 10000019)
        self.assertEqual(sum_of_squares(10000019) - sum_of_squares(GREAT), 10000019 ** 2)

    def test_asked_again_the_same(self):
        for ask in (sum_of_primes, sum_of_squares):
            for bound in (0, 2, 100, GREAT, 100):
                self.assertEqual(ask(bound), ask(bound))

    def test_the_kind_of_what_is_told(self):
        for ask in (sum_of_primes, sum_of_squares):
            for bound in (0, 1, 2, 3, 100, GREAT):
                self.assertIs(type(ask(bound)), int)


if __name__ == "__main__":
    unittest.main()
