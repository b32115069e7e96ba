"""Promise 2: what is told goes together; of 1: no primes above 10 ** 6 are gone through."""

import unittest
from unittest import mock

from tests.helper import most_held, rows_run
from untoldprimes import rough as rough_module
from untoldprimes import steps
from untoldprimes.counted import many_between, many_primes
from untoldprimes.parts import root, whole_parts
from untoldprimes.rests import in_rests
from untoldprimes.rough import rough
from untoldprimes.small import is_prime, primes_to
from untoldprimes.steps import left_behind
from untoldprimes.sums import sum_of_primes, sum_of_squares

GREAT = 10 ** 7
MILLION = 10 ** 6
PRIMES_TO_GREAT = 664579
SOME_MEGABYTES = 5 * 2 ** 20
SMALL = (*range(1, 130), 360, 361, 362, 1000, 9973, 99999)
BOUNDS = (*SMALL, 997 ** 2, MILLION)


class Together(unittest.TestCase):
    def test_the_last_table_has_the_counts(self):
        for bound in SMALL:
            for part, left in left_behind(bound, root(bound)):
                self.assertEqual(left, many_primes(part))

    def test_the_last_table_of_a_great_bound(self):
        for part, left in left_behind(GREAT, root(GREAT))[::25]:
            self.assertEqual(left, many_primes(part))

    def test_the_count_and_the_counts_in_rests(self):
        for bound in BOUNDS:
            for number in (1, 2, 3, 8, 17, 29, 30):
                self.assertEqual(sum(in_rests(bound, number)), many_primes(bound))

    def test_the_sums_and_the_counts_in_rests(self):
        for bound in BOUNDS:
            for number in (2, 3, 8, 17, 29, 30):
                counts = in_rests(bound, number)
                rests = sum(rest * count for rest, count in enumerate(counts))
                squares = sum(rest * rest * count for rest, count in enumerate(counts))
                self.assertEqual((sum_of_primes(bound) - rests) % number, 0)
                self.assertEqual((sum_of_squares(bound) - squares) % number, 0)

    def test_the_count_and_the_sums_grow_together(self):
        for bound in (*range(1, 200), MILLION + 3, GREAT - 9, GREAT):
            gain = int(is_prime(bound))
            self.assertEqual(many_primes(bound) - many_primes(bound - 1), gain)
            self.assertEqual(many_between(bound, bound), gain)
            self.assertEqual(sum_of_primes(bound) - sum_of_primes(bound - 1), gain * bound)
            self.assertEqual(sum_of_squares(bound) - sum_of_squares(bound - 1), gain * bound * bound)

    def test_the_count_and_rough_numbers(self):
        for bound in BOUNDS:
            many = many_primes(root(bound))
            self.assertEqual(rough(bound, many), many_primes(bound) + 1 - many)

    def test_the_steps_and_rough_numbers(self):
        primes = primes_to(1223)
        for bound in (1223 ** 2, 3 * MILLION, GREAT):
            for many in (1, 2, 3, 30, 199, 200):
                left = left_behind(bound, primes[many - 1])[0][1]
                self.assertEqual(rough(bound, many), left + 1 - many)

    def test_whole_parts_as_bounds(self):
        for part in whole_parts(1000):
            self.assertEqual(many_primes(part), dict(left_behind(1000, 31))[part])


class NotGoneThrough(unittest.TestCase):
    calls = ((many_primes, (GREAT,)), (many_between, (0, GREAT)), (many_between, (GREAT - 1, GREAT)),
             (sum_of_primes, (GREAT,)), (sum_of_squares, (GREAT,)), (rough, (GREAT, 200)), (in_rests, (MILLION, 30)))

    def test_only_primes_to_the_whole_root_are_asked_for(self):
        with mock.patch.object(steps, "primes_to", wraps=primes_to) as one:
            with mock.patch.object(rough_module, "primes_to", wraps=primes_to) as other:
                for ask, words in self.calls:
                    ask(*words)
        asked = one.call_args_list + other.call_args_list
        self.assertTrue(asked)
        self.assertLessEqual(max(call.args[0] for call in asked), root(GREAT))

    def test_no_call_holds_as_much_as_all_primes(self):
        for ask, words in self.calls:
            self.assertLess(most_held(ask, *words), SOME_MEGABYTES)

    def test_fewer_rows_are_run_than_there_are_primes(self):
        for ask, words in ((many_primes, (GREAT,)), (many_between, (0, GREAT)), (sum_of_primes, (GREAT,)),
                           (sum_of_squares, (GREAT,)), (rough, (GREAT, 200))):
            self.assertLess(rows_run(ask, *words), PRIMES_TO_GREAT)


if __name__ == "__main__":
    unittest.main()
