"""Promises 12 and 13: how many primes there are."""

import unittest
from bisect import bisect_right

from tests.helper import by_hand, by_marks
from untoldprimes.counted import many_between, many_primes

GREAT = 10 ** 7
LAST = 9999991


def wanted_to(bound):
    return bisect_right(by_marks(GREAT), bound)


class ManyPrimes(unittest.TestCase):
    def test_the_least_bounds(self):
        self.assertEqual([many_primes(bound) for bound in range(5)], [0, 0, 1, 2, 2])

    def test_each_bound_to_some_thousands(self):
        primes = by_hand(4000)
        for bound in range(4001):
            self.assertEqual(many_primes(bound), bisect_right(primes, bound))

    def test_powers_of_ten(self):
        told = [many_primes(10 ** power) for power in range(1, 8)]
        self.assertEqual(told, [4, 25, 168, 1229, 9592, 78498, 664579])

    def test_about_squares_of_primes(self):
        for prime in by_hand(200) + [997, 1009, 2003, 3119, 3121, 3137]:
            for bound in range(prime * prime - 2, prime * prime + 3):
                self.assertEqual(many_primes(bound), wanted_to(bound))

    def test_about_products_of_two_primes(self):
        for product in (53 * 59, 991 * 997, 3121 * 3137, 2 * 4999999, 3 * 3333307):
            for bound in (product - 1, product, product + 1):
                self.assertEqual(many_primes(bound), wanted_to(bound))

    def test_bounds_far_apart(self):
        for bound in range(1, GREAT, 98765):
            self.assertEqual(many_primes(bound), wanted_to(bound))

    def test_about_the_greatest_bound(self):
        self.assertEqual(many_primes(LAST - 1), 664578)
        for bound in range(LAST, GREAT + 1):
            self.assertEqual(many_primes(bound), 664579)

    def test_somewhat_beyond(self):
        self.assertEqual(many_primes(10000018), 664579)
        self.assertEqual(many_primes(10000019), 664580)

    def test_asked_again_the_same(self):
        for bound in (0, 2, 100, 10 ** 6, GREAT, 100, 0):
            self.assertEqual(many_primes(bound), many_primes(bound))

    def test_the_kind_of_what_is_told(self):
        for bound in (0, 1, 2, 3, 100, GREAT):
            self.assertIs(type(many_primes(bound)), int)


class ManyBetween(unittest.TestCase):
    def test_all_small_pairs(self):
        primes = by_hand(60)
        for low in range(61):
            for high in range(61):
                wanted = sum(low <= prime <= high for prime in primes)
                self.assertEqual(many_between(low, high), wanted)

    def test_both_are_counted(self):
        self.assertEqual(many_between(7, 13), 3)
        self.assertEqual(many_between(8, 12), 1)
        self.assertEqual(many_between(2, LAST), 664579)
        self.assertEqual(many_between(3, LAST - 1), 664577)

    def test_the_first_above_the_second(self):
        for low, high in ((1, 0), (2, 1), (3, 2), (8, 7), (100, 10), (100, 0), (GREAT, 0), (GREAT, LAST), (GREAT, 2)):
            self.assertEqual(many_between(low, high), 0)

    def test_the_same_number_twice(self):
        primes = by_hand(500)
        for number in range(501):
            self.assertEqual(many_between(number, number), int(number in primes))
        self.assertEqual(many_between(LAST, LAST), 1)
        self.assertEqual(many_between(GREAT, GREAT), 0)
        self.assertEqual(many_between(3137 ** 2, 3137 ** 2), 0)

    def test_from_nought_and_one(self):
        self.assertEqual(many_between(0, 0), 0)
        self.assertEqual(many_between(0, 1), 0)
        self.assertEqual(many_between(1, 1), 0)
        for high in (2, 10, 100, 9973, GREAT):
            for low in (0, 1, 2):
                self.assertEqual(many_between(low, high), many_primes(high))

    def test_counts_go_together(self):
        for number in (0, 1, 2, 3, 9, 10, 11, 99991, 10 ** 6, LAST - 1, LAST, GREAT - 1):
            self.assertEqual(many_between(0, number) + many_between(number + 1, GREAT), many_primes(GREAT))

    def test_great_pairs(self):
        self.assertEqual(many_between(10 ** 6, GREAT), 664579 - 78498)
        for low in range(0, GREAT, 1234567):
            for high in range(low, GREAT, 1111111):
                self.assertEqual(many_between(low, high), wanted_to(high) - wanted_to(low - 1))

    def test_the_kind_of_what_is_told(self):
        for low, high in ((0, 0), (2, 1), (2, 2), (0, GREAT), (GREAT, 0)):
            self.assertIs(type(many_between(low, high)), int)


if __name__ == "__main__":
    unittest.main()
