"""Promises 9 to 11, and of 1 that no primes above 10 ** 6 are gone through."""

import unittest
from unittest import mock

from tests.helper import most_held
from untoldprimes import steps
from untoldprimes.parts import whole_parts
from untoldprimes.small import is_prime, least_prime
from untoldprimes.steps import left_behind

SOME_MEGABYTES = 4 * 2 ** 20


def parts_by_hand(bound):
    return sorted({bound // number for number in range(1, bound + 1)}, reverse=True)


def taken_away(bound, number):
    """The table of promise 10, by taking away number by number."""
    left = list(range(2, bound + 1))
    for prime in range(2, min(number, bound) + 1):
        if prime in left and all(prime % lesser for lesser in range(2, prime)):
            left = [one for one in left if one == prime or one % prime]
    return [(part, sum(one <= part for one in left)) for part in parts_by_hand(bound)]


def sieved(bound, number):
    """The same of great bounds, by marks for all numbers."""
    marks = bytearray([0, 0]) + bytearray([1]) * (bound - 1)
    for prime in range(2, min(number, int(bound ** 0.5) + 1) + 1):
        if all(prime % lesser for lesser in range(2, int(prime ** 0.5) + 1)):
            marks[2 * prime::prime] = bytes(len(range(2 * prime, bound + 1, prime)))
    table, count, last = [], 0, 0
    for part in reversed(parts_by_hand(bound)):
        count += sum(marks[last + 1:part + 1])
        last = part
        table.append((part, count))
    return table[::-1]


def unparted(part, primes):
    """How many numbers from 1 to part none of the primes parts."""
    if not primes:
        return part
    return unparted(part, primes[1:]) - unparted(part // primes[0], primes[1:])


class LeftBehind(unittest.TestCase):
    def test_the_least_bounds(self):
        for number in (0, 1, 2, 3, 10, 10 ** 7):
            self.assertEqual(left_behind(1, number), [(1, 0)])
            self.assertEqual(left_behind(2, number), [(2, 1), (1, 0)])
            self.assertEqual(left_behind(3, number), [(3, 2), (1, 0)])
        for number in (0, 1):
            self.assertEqual(left_behind(4, number), [(4, 3), (2, 1), (1, 0)])
        for number in (2, 3, 4, 10 ** 7):
            self.assertEqual(left_behind(4, number), [(4, 2), (2, 1), (1, 0)])

    def test_ahead_of_all_steps(self):
        for bound in (1, 10, 99, 100, 10 ** 7):
            for number in (0, 1):
                self.assertEqual(left_behind(bound, number), [(part, part - 1) for part in parts_by_hand(bound)])

    def test_the_steps_of_a_hundred(self):
        self.assertEqual([left_behind(100, number)[0] for number in range(12)],
                         [(100, 99)] * 2 + [(100, 50)] + [(100, 34)] * 2 + [(100, 28)] * 2 + [(100, 25)] * 5)

    def test_small_bounds_by_taking_away(self):
        for bound in range(1, 70):
            for number in range(bound + 3):
                self.assertEqual(left_behind(bound, number), taken_away(bound, number))

    def test_middling_bounds_by_taking_away(self):
        for bound in (360, 361, 362, 528, 529, 1000):
            for number in (2, 3, 4, 7, 13, 18, 19, 20, 22, 23, 31, 100, bound):
                self.assertEqual(left_behind(bound, number), taken_away(bound, number))

    def test_great_bounds_by_marks(self):
        for bound in (10 ** 5, 317 ** 2 - 1, 317 ** 2):
            for number in (2, 30, 100, 313, 316, 317, 10 ** 7):
                self.assertEqual(left_behind(bound, number), sieved(bound, number))

    def test_the_greatest_bound_by_marks(self):
        for number in (1000, 3162):
            self.assertEqual(left_behind(10 ** 7, number), sieved(10 ** 7, number))

    def test_the_greatest_bound_behind_the_first_steps(self):
        primes = [2, 3, 5, 7, 11, 13]
        for many in range(1, 7):
            told = left_behind(10 ** 7, primes[many - 1])
            for part, left in told[:3000]:
                self.assertEqual(left, unparted(part, primes[:many]) + many - 1)

    def test_no_primes_end_with_the_prime_below(self):
        for number, prime in ((4, 3), (6, 5), (10, 7), (28, 23), (3160, 3137), (3162, 3137)):
            self.assertEqual(left_behind(10 ** 7, number), left_behind(10 ** 7, prime))
            self.assertNotEqual(left_behind(10 ** 7, number), left_behind(10 ** 7, prime - 1))

    def test_greater_ones_take_nothing_away(self):
        wanted = left_behind(10 ** 6, 997)
        for number in (998, 1000, 1009, 10 ** 6, 10 ** 7):
            self.assertEqual(left_behind(10 ** 6, number), wanted)
        self.assertNotEqual(left_behind(10 ** 6, 996), wanted)
        self.assertEqual(left_behind(10 ** 7, 10 ** 7), left_behind(10 ** 7, 3137))

    def test_the_step_of_a_prime_whose_square_is_the_bound(self):
        self.assertEqual(left_behind(997 ** 2, 996)[0][1] - left_behind(997 ** 2, 997)[0][1], 1)
        self.assertEqual(left_behind(997 ** 2 - 1, 996), left_behind(997 ** 2 - 1, 997))

    def test_the_kinds_of_what_is_told(self):
        for bound, number in ((1, 0), (100, 5), (10 ** 7, 10 ** 7)):
            told = left_behind(bound, number)
            self.assertIs(type(told), list)
            self.assertEqual({type(row) for row in told}, {tuple})
            self.assertEqual({type(one) for row in told for one in row}, {int})
            self.assertEqual([row[0] for row in told], whole_parts(bound))

    def test_a_told_list_is_the_askers_own(self):
        told = left_behind(100, 5)
        wanted = list(told)
        told[0] = (100, 0)
        del told[3:]
        self.assertEqual(left_behind(100, 5), wanted)
        self.assertIsNot(left_behind(100, 5), left_behind(100, 5))


class PrimesAlone(unittest.TestCase):
    def test_powers_of_ten(self):
        counts = (4, 25, 168, 1229, 9592, 78498, 664579)
        for power, count in enumerate(counts, 1):
            bound = 10 ** power
            told = dict(left_behind(bound, int(bound ** 0.5)))
            self.assertEqual(told[bound], count)
            for lesser in range(power):
                self.assertEqual(told[10 ** lesser], counts[lesser - 1] if lesser else 0)

    def test_to_each_whole_part(self):
        for bound in range(1, 200):
            for part, left in left_behind(bound, bound):
                self.assertEqual(left, sum(is_prime(one) for one in range(part + 1)))


class NotGoneThrough(unittest.TestCase):
    def test_only_primes_to_the_whole_root_are_asked_for(self):
        with mock.patch.object(steps, "primes_to", wraps=steps.primes_to) as watched:
            for number in (0, 100, 3162, 10 ** 7):
                left_behind(10 ** 7, number)
        self.assertTrue(watched.called)
        self.assertLessEqual(max(call.args[0] for call in watched.call_args_list), 3162)

    def test_no_call_holds_as_much_as_all_primes(self):
        calls = ((left_behind, (10 ** 7, 10 ** 7)), (least_prime, (999999999989,)), (is_prime, (999983 ** 2,)))
        for ask, words in calls:
            self.assertLess(most_held(ask, *words), SOME_MEGABYTES)


if __name__ == "__main__":
    unittest.main()
