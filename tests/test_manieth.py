"""Promises 20 and 21: the so-manieth prime, its place, and the primes next to a number."""

import unittest
import weakref
from bisect import bisect_left, bisect_right

from tests.helper import Seven, Whole, assert_refused, by_hand, by_marks, no_numbers
from untoldprimes.errors import NoPrime
from untoldprimes.manieth import last_prime, next_prime, place_of, prime_at

GREAT = 10 ** 7
TRILLION = 10 ** 12
SMALL_PRIMES = by_hand(4000)


def prime_by_trying(number):
    return number > 1 and all(number % lesser for lesser in range(2, int(number ** 0.5) + 1))


def prime_by_powers(number):
    """Whether a number from 50 to 10 ** 12 is a prime, by the test of Miller and Rabin."""
    if any(number % prime == 0 for prime in (2, 3, 5, 7, 11, 13, 17)):
        return False
    odd, twos = number - 1, 0
    while odd % 2 == 0:
        odd, twos = odd // 2, twos + 1
    for base in (2, 3, 5, 7, 11, 13, 17):
        powers = [pow(base, odd << many, number) for many in range(twos)]
        if powers[0] != 1 and number - 1 not in powers:
            return False
    return True


class PrimeAt(unittest.TestCase):
    def test_the_first_places(self):
        self.assertEqual([prime_at(place) for place in range(6)], [2, 3, 5, 7, 11, 13])

    def test_each_place_to_some_hundreds(self):
        for place in range(len(SMALL_PRIMES)):
            self.assertEqual(prime_at(place), SMALL_PRIMES[place])

    def test_some_by_sight(self):
        self.assertEqual(prime_at(24), 97)
        self.assertEqual(prime_at(999), 7919)
        self.assertEqual(prime_at(9999), 104729)
        self.assertEqual(prime_at(60000), 746777)

    def test_places_far_apart(self):
        primes = by_marks(10 ** 6)
        for place in (*range(0, 60001, 997), 59999, 60000):
            self.assertEqual(prime_at(place), primes[place])

    def test_about_powers_of_two(self):
        primes = by_marks(10 ** 6)
        for power in range(1, 20):
            place = bisect_left(primes, 2 ** power)
            for near in range(max(0, place - 2), min(60000, place + 2) + 1):
                self.assertEqual(prime_at(near), primes[near])

    def test_somewhat_beyond(self):
        for place in (60001, 78497, 78498, 100000):
            self.assertEqual(prime_at(place), by_marks(GREAT)[place])

    def test_an_int_that_is_no_truth(self):
        self.assertEqual(prime_at(Whole(3)), 7)

    def test_the_kind_of_what_is_told(self):
        for place in (0, 1, 2, 100, 60000, Whole(0), Whole(3)):
            self.assertIs(type(prime_at(place)), int)

    def test_places_below_nought(self):
        for place in (-1, -2, -3, -60000, -GREAT, -10 ** 24, -10 ** 5000, Whole(-1)):
            assert_refused(self, NoPrime, prime_at, place)

    def test_what_is_no_place(self):
        for thing in no_numbers():
            assert_refused(self, NoPrime, prime_at, thing)


class PlaceOf(unittest.TestCase):
    def test_some_by_sight(self):
        told = [place_of(prime) for prime in (2, 3, 5, 7, 97, 7919, 99991, 104729)]
        self.assertEqual(told, [0, 1, 2, 3, 24, 999, 9591, 9999])

    def test_each_number_to_some_hundreds(self):
        for number in range(-50, 2001):
            if number in SMALL_PRIMES:
                self.assertEqual(place_of(number), SMALL_PRIMES.index(number))
            else:
                assert_refused(self, NoPrime, place_of, number)

    def test_primes_to_the_greatest(self):
        primes = by_marks(GREAT)
        for place in (*range(0, len(primes), 9973), len(primes) - 2, len(primes) - 1):
            self.assertEqual(place_of(primes[place]), place)
        self.assertEqual(place_of(9999991), 664578)

    def test_there_and_back(self):
        for place in (*range(400), 999, 9999, 33333, 60000):
            self.assertEqual(place_of(prime_at(place)), place)
        for prime in (2, 3, 7919, 99991, 746773, 746777):
            self.assertEqual(prime_at(place_of(prime)), prime)

    def test_an_int_that_is_no_truth(self):
        self.assertEqual(place_of(Whole(7)), 3)
        assert_refused(self, NoPrime, place_of, Whole(8))

    def test_the_kind_of_what_is_told(self):
        for prime in (2, 3, 9999991, Whole(2), Whole(7)):
            self.assertIs(type(place_of(prime)), int)

    def test_numbers_below_two(self):
        for number in (1, 0, -1, -2, -3, -7, -7919, -9999991, -10 ** 24, -10 ** 5000):
            assert_refused(self, NoPrime, place_of, number)

    def test_products_and_squares_of_primes(self):
        for prime in SMALL_PRIMES[:440]:
            assert_refused(self, NoPrime, place_of, prime * prime)
        for one, other in ((2, 3), (3, 5), (2, 4999999), (3, 3333307), (991, 997), (3121, 3137), (3137, 3137)):
            assert_refused(self, NoPrime, place_of, one * other)

    def test_about_the_greatest_number(self):
        for number in range(9999992, GREAT + 1):
            assert_refused(self, NoPrime, place_of, number)

    def test_primes_above_the_greatest(self):
        for prime in (10000019, 10000079, 10000103, 2147483647, 999999999989, 2 ** 61 - 1, 2 ** 521 - 1, 2 ** 9689 - 1):
            assert_refused(self, NoPrime, place_of, prime)

    def test_great_numbers(self):
        for number in (GREAT + 1, TRILLION, 10 ** 24, 10 ** 5000):
            assert_refused(self, NoPrime, place_of, number)

    def test_what_is_no_number(self):
        for thing in no_numbers():
            assert_refused(self, NoPrime, place_of, thing)


class Handed(unittest.TestCase):
    def test_what_is_handed_in_is_neither_changed_nor_kept(self):
        for ask in (prime_at, place_of):
            rows, table = [2, [3, 5]], {2: [3]}
            assert_refused(self, NoPrime, ask, rows)
            assert_refused(self, NoPrime, ask, table)
            self.assertEqual(rows, [2, [3, 5]])
            self.assertEqual(table, {2: [3]})
            thing = Seven()
            held = weakref.ref(thing)
            assert_refused(self, NoPrime, ask, thing)
            del thing
            self.assertIsNone(held())

    def test_asked_rightly_behind_a_refusal(self):
        assert_refused(self, NoPrime, prime_at, -1)
        self.assertEqual(prime_at(0), 2)
        assert_refused(self, NoPrime, place_of, 4)
        self.assertEqual(place_of(5), 2)


class NextAndLast(unittest.TestCase):
    def assert_next_to(self, number):
        """That no number between is a prime and what is told is one, tried by powers."""
        behind, ahead = next_prime(number), last_prime(number)
        self.assertTrue(ahead < number < behind)
        for other in range(ahead, behind + 1):
            if other != number:
                self.assertEqual(prime_by_powers(other), other in (ahead, behind))

    def test_the_least_numbers(self):
        self.assertEqual([next_prime(number) for number in range(6)], [2, 2, 3, 5, 5, 7])
        self.assertEqual([last_prime(number) for number in range(6)], [None, None, None, 2, 3, 3])

    def test_each_number_to_some_hundreds(self):
        for number in range(3, 3000):
            self.assertEqual(next_prime(number), SMALL_PRIMES[bisect_right(SMALL_PRIMES, number)])
            self.assertEqual(last_prime(number), SMALL_PRIMES[bisect_left(SMALL_PRIMES, number) - 1])

    def test_of_a_prime_another_one_is_told(self):
        for one, other in zip(SMALL_PRIMES, SMALL_PRIMES[1:]):
            self.assertEqual(next_prime(one), other)
            self.assertEqual(last_prime(other), one)
        self.assertEqual(next_prime(999999999961), 999999999989)
        self.assertEqual(last_prime(999999999989), 999999999961)

    def test_about_squares_of_primes(self):
        for prime in SMALL_PRIMES[3:60] + [997, 3137, 9973, 99991, 999983]:
            for number in range(prime * prime - 1, prime * prime + 2):
                self.assert_next_to(number)

    def test_any_number_of_figures(self):
        for power in range(2, 12):
            for number in (10 ** power - 1, 10 ** power, 3 * 10 ** power + 7, 10 ** (power + 1) - 11):
                self.assert_next_to(number)

    def test_a_great_gap(self):
        self.assertEqual(next_prime(113), 127)
        self.assertEqual(last_prime(127), 113)
        self.assertEqual(next_prime(1327), 1361)
        self.assertEqual(next_prime(738832927927), 738832928467)
        self.assertEqual(last_prime(738832928467), 738832927927)

    def test_the_greatest_number(self):
        self.assertEqual(next_prime(TRILLION), 1000000000039)
        self.assertEqual(last_prime(TRILLION), 999999999989)
        self.assertEqual(next_prime(TRILLION - 1), 1000000000039)
        self.assertEqual(last_prime(TRILLION + 39), 999999999989)

    def test_somewhat_beyond(self):
        self.assertEqual(next_prime(TRILLION + 39), 1000000000061)
        self.assertEqual(next_prime(-1), 2)
        self.assertIsNone(last_prime(-1))

    def test_the_test_by_powers_itself(self):
        for number in range(50, 5000):
            self.assertEqual(prime_by_powers(number), prime_by_trying(number))

    def test_the_kinds_of_what_is_told(self):
        for number in (3, 4, 1000, TRILLION, Whole(3), Whole(7)):
            self.assertIs(type(next_prime(number)), int)
            self.assertIs(type(last_prime(number)), int)
        for number in (0, 1, 2):
            self.assertIs(type(next_prime(number)), int)
            self.assertIsNone(last_prime(number))


if __name__ == "__main__":
    unittest.main()
