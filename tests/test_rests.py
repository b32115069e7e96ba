"""Promises 15 and 16: how many primes have each rest by a number."""

import unittest
import weakref
from bisect import bisect_right

from tests.helper import Brittle, Seven, Whole, assert_refused, by_hand, by_marks, no_numbers
from untoldprimes.errors import NoRest
from untoldprimes.rests import in_rests

GREAT = 10 ** 6


def counted(primes, number):
    counts = [0] * number
    for prime in primes:
        counts[prime % number] += 1
    return counts


class InRests(unittest.TestCase):
    def test_the_least_bounds(self):
        for number in range(1, 31):
            self.assertEqual(in_rests(0, number), [0] * number)
            self.assertEqual(in_rests(1, number), [0] * number)
            self.assertEqual(in_rests(2, number), counted([2], number))
            self.assertEqual(in_rests(3, number), counted([2, 3], number))

    def test_some_by_sight(self):
        self.assertEqual(in_rests(2, 1), [1])
        self.assertEqual(in_rests(2, 2), [1, 0])
        self.assertEqual(in_rests(2, 3), [0, 0, 1])
        self.assertEqual(in_rests(10, 1), [4])
        self.assertEqual(in_rests(10, 2), [1, 3])
        self.assertEqual(in_rests(10, 3), [1, 1, 2])
        self.assertEqual(in_rests(100, 4), [0, 11, 1, 13])
        self.assertEqual(in_rests(100, 10), [0, 5, 1, 7, 0, 1, 0, 6, 0, 5])

    def test_small_bounds(self):
        primes = by_hand(300)
        for bound in range(301):
            for number in range(1, 31):
                wanted = counted(primes[:bisect_right(primes, bound)], number)
                self.assertEqual(in_rests(bound, number), wanted)

    def test_great_bounds(self):
        for bound in (10 ** 4, 10 ** 5, 997 ** 2 - 1, 997 ** 2, 999983, GREAT):
            primes = by_marks(bound)
            for number in range(1, 31):
                self.assertEqual(in_rests(bound, number), counted(primes, number))

    def test_somewhat_beyond(self):
        for bound in (1000003, 1100000):
            for number in (1, 7, 30):
                self.assertEqual(in_rests(bound, number), counted(by_marks(bound), number))

    def test_as_many_places_as_the_number(self):
        for bound in (0, 1, 2, 29, 1000):
            self.assertEqual([len(in_rests(bound, number)) for number in range(1, 31)], list(range(1, 31)))

    def test_the_kinds_of_what_is_told(self):
        for bound in (0, 1, 2, 1000, GREAT):
            for number in (1, 2, 30):
                told = in_rests(bound, number)
                self.assertIs(type(told), list)
                self.assertEqual({type(count) for count in told}, {int})

    def test_a_told_list_is_the_askers_own(self):
        for bound in (0, 1, 2, 100):
            wanted = counted(by_hand(bound), 6)
            told = in_rests(bound, 6)
            told[0] = 99
            told.append(5)
            self.assertEqual(in_rests(bound, 6), wanted)
            self.assertIsNot(in_rests(bound, 6), in_rests(bound, 6))

    def test_an_int_that_is_no_truth(self):
        self.assertEqual(in_rests(10, Whole(3)), [1, 1, 2])


class Refused(unittest.TestCase):
    def assert_refused(self, bound, thing):
        assert_refused(self, NoRest, in_rests, bound, thing)

    def test_other_numbers(self):
        numbers = (0, 31, 32, 60, 100, -1, -2, -29, -30, -31, GREAT, 10 ** 24, -10 ** 24, 10 ** 5000, -10 ** 5000)
        for bound in (0, 1, 2, 10, 1000, GREAT):
            for number in numbers:
                self.assert_refused(bound, number)
        for number in (Whole(0), Whole(31)):
            self.assert_refused(10, number)

    def test_what_is_no_number(self):
        for bound in (0, 1, 2, 10, 1000, GREAT):
            for thing in no_numbers():
                self.assert_refused(bound, thing)

    def test_truths(self):
        for bound in (0, 10, GREAT):
            self.assert_refused(bound, True)
            self.assert_refused(bound, False)

    def test_whatever_the_bound_is(self):
        for bound in (-1, 10 ** 24, None, "10", [], Brittle()):
            for thing in (0, 31, True, None, "7", [7]):
                self.assert_refused(bound, thing)

    def test_the_edges_are_not_refused(self):
        self.assertEqual(in_rests(100, 1), [25])
        self.assertEqual(sum(in_rests(100, 30)), 25)

    def test_asked_rightly_behind_a_refusal(self):
        self.assert_refused(10, 0)
        self.assertEqual(in_rests(10, 3), [1, 1, 2])

    def test_what_is_handed_in_is_neither_changed_nor_kept(self):
        rows, table = [2, [3, 5]], {2: [3]}
        self.assert_refused(10, rows)
        self.assert_refused(10, table)
        self.assertEqual(rows, [2, [3, 5]])
        self.assertEqual(table, {2: [3]})
        thing = Seven()
        held = weakref.ref(thing)
        self.assert_refused(10, thing)
        del thing
        self.assertIsNone(held())


if __name__ == "__main__":
    unittest.main()
