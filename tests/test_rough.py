"""Promises 17 to 19: rough numbers."""

import unittest

from tests.helper import by_hand, by_marks
from untoldprimes.counted import many_primes
from untoldprimes.rough import rough
from untoldprimes.small import primes_to

GREAT = 10 ** 7
PRIMES = by_hand(1300)
ROOTS = ((4, 2), (8, 2), (9, 3), (24, 3), (25, 5), (1000, 31), (10 ** 4, 100), (961 ** 2, 961), (1222 ** 2, 1222),
         (1223 ** 2 - 1, 1222), (1223 ** 2, 1223), (1228 ** 2, 1228), (1229 ** 2 - 1, 1228))


def by_number(bound, many):
    """Each number from 1 to the bound tried by each of the first primes."""
    return sum(all(number % prime for prime in PRIMES[:many]) for number in range(1, bound + 1))


def by_crossing(bound, many):
    """The same of great bounds, by marks for all numbers."""
    marks = bytearray([0]) + bytearray([1]) * bound
    for prime in PRIMES[:many]:
        marks[prime::prime] = bytes(len(range(prime, bound + 1, prime)))
    return sum(marks)


class Rough(unittest.TestCase):
    def test_the_bound_nought(self):
        for many in range(201):
            self.assertEqual(rough(0, many), 0)

    def test_the_bound_one(self):
        for many in range(201):
            self.assertEqual(rough(1, many), 1)

    def test_none_of_the_first_primes(self):
        for bound in (0, 1, 2, 3, 4, 10, 99, 10 ** 6, GREAT):
            self.assertEqual(rough(bound, 0), bound)

    def test_two_is_the_first(self):
        for bound in (1, 2, 3, 4, 5, 100, 101, GREAT):
            self.assertEqual(rough(bound, 1), (bound + 1) // 2)

    def test_some_by_sight(self):
        self.assertEqual(rough(10, 1), 5)
        self.assertEqual(rough(10, 2), 3)
        self.assertEqual(rough(10, 3), 2)
        self.assertEqual(rough(10, 4), 1)
        self.assertEqual(rough(10, 5), 1)
        self.assertEqual(rough(30, 3), 8)
        self.assertEqual(rough(210, 4), 48)

    def test_small_bounds_number_by_number(self):
        for bound in range(131):
            for many in (*range(34), 50, 100, 199, 200):
                self.assertEqual(rough(bound, many), by_number(bound, many))

    def test_middling_bounds_number_by_number(self):
        for bound in (360, 361, 362, 528, 529, 530, 1000, 2500):
            for many in range(0, 201, 3):
                self.assertEqual(rough(bound, many), by_number(bound, many))

    def test_about_the_first_primes(self):
        for many in (1, 2, 3, 10, 50, 199, 200):
            prime = PRIMES[many - 1]
            self.assertEqual(rough(prime - 1, many), 1)
            self.assertEqual(rough(prime, many), 1)
            self.assertEqual(rough(PRIMES[many] - 1, many), 1)
            self.assertEqual(rough(PRIMES[many], many), 2)
            self.assertEqual(rough(prime, many - 1), 2)
            self.assertEqual(rough(PRIMES[many] ** 2 - 1, many) + 1, rough(PRIMES[many] ** 2, many))

    def test_great_bounds_by_crossing(self):
        for bound in (10 ** 5, 997 ** 2, 1223 ** 2, GREAT - 1, GREAT):
            for many in (1, 2, 5, 20, 168, 169, 199, 200):
                self.assertEqual(rough(bound, many), by_crossing(bound, many))

    def test_one_first_prime_more_leaves_no_more(self):
        for bound in (0, 1, 2, 10, 1223, 1224, 10 ** 5, GREAT):
            told = [rough(bound, many) for many in range(201)]
            self.assertEqual(told, sorted(told, reverse=True))

    def test_somewhat_beyond(self):
        for bound, many in ((0, 201), (1, 250), (100, 500), (2500, 201), (2500, 400), (10 ** 5, 203)):
            primes = primes_to(3000)[:many]
            wanted = sum(all(number % prime for prime in primes) for number in range(1, bound + 1))
            self.assertEqual(rough(bound, many), wanted)
        self.assertEqual(rough(10000019, 446) - rough(GREAT, 446), 1)

    def test_the_kind_of_what_is_told(self):
        for bound in (0, 1, 2, 100, GREAT):
            for many in (0, 1, 200):
                self.assertIs(type(rough(bound, many)), int)


class AllToTheWholeRoot(unittest.TestCase):
    def test_the_count_of_primes_and_one_less_how_many(self):
        for bound, least in ((1, 1), (2, 1), (3, 1), *ROOTS):
            many = len([prime for prime in PRIMES if prime <= least])
            self.assertEqual(rough(bound, many), many_primes(bound) + 1 - many)

    def test_the_same_beside_primes_found_otherwise(self):
        for bound, least in ROOTS:
            many = len([prime for prime in PRIMES if prime <= least])
            self.assertEqual(rough(bound, many), len(by_marks(bound)) + 1 - many)

    def test_one_first_prime_less(self):
        for bound, least in ROOTS:
            many = len([prime for prime in PRIMES if prime <= least])
            self.assertGreater(rough(bound, many - 1), many_primes(bound) + 1 - (many - 1))


if __name__ == "__main__":
    unittest.main()
