"""Promise 8: small primes."""

import unittest
import weakref

from tests.helper import Seven, Whole, by_hand, no_numbers
from untoldprimes.small import is_prime, is_whole, least_prime, primes_to

GREAT_PRIMES = (999983, 1000003, 2147483647, 99999999977, 999999999959, 999999999961, 999999999989)
GREAT_PRODUCTS = (
    (999983, 999979),
    (999983, 999983),
    (9973, 9973),
    (9967, 9973),
    (7, 99999999977),
    (2, 499999999979),
    (3, 333333333299),
)


def least_by_hand(number):
    divisor = 2
    while number % divisor:
        divisor += 1
    return divisor


class PrimesTo(unittest.TestCase):
    def test_the_least_bounds(self):
        self.assertEqual(primes_to(0), [])
        self.assertEqual(primes_to(1), [])
        self.assertEqual(primes_to(2), [2])
        self.assertEqual(primes_to(3), [2, 3])
        self.assertEqual(primes_to(4), [2, 3])

    def test_small_bounds(self):
        wanted = by_hand(400)
        for bound in range(401):
            told = primes_to(bound)
            self.assertIs(type(told), list)
            self.assertEqual(told, [prime for prime in wanted if prime <= bound])

    def test_a_million(self):
        told = primes_to(10 ** 6)
        self.assertEqual(len(told), 78498)
        self.assertEqual(told[-1], 999983)
        self.assertEqual(told, sorted(set(told)))
        self.assertEqual(sum(told), 37550402023)
        self.assertEqual({type(prime) for prime in told}, {int})

    def test_about_a_prime_and_a_square(self):
        self.assertEqual(primes_to(999983)[-1], 999983)
        self.assertEqual(primes_to(999982)[-1], 999979)
        self.assertEqual(primes_to(997 ** 2)[-1], 993997)
        self.assertEqual(len(primes_to(10 ** 5)), 9592)

    def test_a_told_list_is_the_askers_own(self):
        told = primes_to(30)
        told.clear()
        self.assertEqual(primes_to(30), [2, 3, 5, 7, 11, 13, 17, 19, 23, 29])
        self.assertIsNot(primes_to(30), primes_to(30))


class LeastPrime(unittest.TestCase):
    def test_small_numbers(self):
        for number in range(2, 3000):
            told = least_prime(number)
            self.assertIs(type(told), int)
            self.assertEqual(told, least_by_hand(number))

    def test_squares_and_cubes_of_primes(self):
        for prime in by_hand(400) + [9973]:
            self.assertEqual(least_prime(prime ** 2), prime)
            self.assertEqual(least_prime(prime ** 3), prime)
        self.assertEqual(least_prime(999983 ** 2), 999983)

    def test_great_primes(self):
        for prime in GREAT_PRIMES:
            self.assertEqual(least_prime(prime), prime)

    def test_products_of_two_great_primes(self):
        for one, other in GREAT_PRODUCTS:
            self.assertEqual(least_prime(one * other), min(one, other))

    def test_about_the_greatest_number(self):
        self.assertEqual(least_prime(10 ** 12), 2)
        self.assertEqual(least_prime(10 ** 12 - 1), 3)
        self.assertEqual(least_prime(10 ** 12 + 1), 73)


class IsWhole(unittest.TestCase):
    def test_an_int_that_is_no_truth(self):
        for thing in (0, 1, -1, 7, 10 ** 24, Whole(7)):
            self.assertIs(is_whole(thing), True)

    def test_truths_and_other_things(self):
        for thing in no_numbers():
            self.assertIs(is_whole(thing), False)


class IsPrime(unittest.TestCase):
    def test_small_numbers(self):
        wanted = by_hand(2000)
        self.assertEqual([n for n in range(-50, 2001) if is_prime(n)], wanted)

    def test_a_truth_is_told_of_each_number(self):
        for number in range(-5, 130):
            self.assertIn(is_prime(number), (True, False))
            self.assertIs(type(is_prime(number)), bool)

    def test_below_two(self):
        for number in (1, 0, -1, -2, -3, -7, -999983, -10 ** 12):
            self.assertIs(is_prime(number), False)

    def test_great_numbers(self):
        for prime in GREAT_PRIMES:
            self.assertIs(is_prime(prime), True)
            self.assertIs(is_prime(-prime), False)
        for one, other in GREAT_PRODUCTS:
            self.assertIs(is_prime(one * other), False)
        self.assertIs(is_prime(10 ** 12), False)

    def test_an_int_that_is_no_truth(self):
        self.assertIs(is_prime(Whole(7)), True)
        self.assertIs(is_prime(Whole(8)), False)

    def test_truths_are_no_numbers(self):
        self.assertIs(is_prime(True), False)
        self.assertIs(is_prime(False), False)

    def test_other_things(self):
        for thing in no_numbers():
            self.assertIs(is_prime(thing), False)

    def test_what_is_handed_in_is_neither_changed_nor_kept(self):
        rows, table = [2, [3, 5]], {2: [3]}
        is_prime(rows)
        is_prime(table)
        self.assertEqual(rows, [2, [3, 5]])
        self.assertEqual(table, {2: [3]})
        thing = Seven()
        held = weakref.ref(thing)
        is_prime(thing)
        del thing
        self.assertIsNone(held())


if __name__ == "__main__":
    unittest.main()
