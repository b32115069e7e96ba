"""Promise 2: what is told goes together; of 1: no primes above 10 ** 6 are gone through."""

import contextlib
import unittest
from unittest import mock

from tests.helper import most_held, rows_run
from untoldprimes import papers, steps
from untoldprimes import rough as rough_module
from untoldprimes.counted import many_between, many_primes
from untoldprimes.desk import Desk
from untoldprimes.manieth import last_prime, next_prime, place_of, prime_at
from untoldprimes.notes import read_paper, show_paper
from untoldprimes.papers import paper_of, shows
from untoldprimes.parts import many_parts, root, whole_parts
from untoldprimes.rests import in_rests
from untoldprimes.rough import rough
from untoldprimes.small import is_prime, primes_to
from untoldprimes.steps import left_behind
from untoldprimes.sums import sum_of_primes, sum_of_squares

GREAT = 10 ** 7
MILLION = 10 ** 6
PRIMES_TO_GREAT = 664579
SOME_MEGABYTES = 5 * 2 ** 20
SMALL = (*range(1, 130), 360, 361, 362, 1000, 9973, 99999)
BOUNDS = (*SMALL, 997 ** 2, MILLION)


class Together(unittest.TestCase):
    def test_the_last_table_has_the_counts(self):
        for bound in SMALL:
            for part, left in left_behind(bound, root(bound)):
                self.assertEqual(left, many_primes(part))

    def test_the_last_table_of_a_great_bound(self):
        for part, left in left_behind(GREAT, root(GREAT))[::25]:
            self.assertEqual(left, many_primes(part))

    def test_the_count_and_the_counts_in_rests(self):
        for bound in BOUNDS:
            for number in (1, 2, 3, 8, 17, 29, 30):
                self.assertEqual(sum(in_rests(bound, number)), many_primes(bound))

    def test_the_sums_and_the_counts_in_rests(self):
        for bound in BOUNDS:
            for number in (2, 3, 8, 17, 29, 30):
                counts = in_rests(bound, number)
                rests = sum(rest * count for rest, count in enumerate(counts))
                squares = sum(rest * rest * count for rest, count in enumerate(counts))
                self.assertEqual((sum_of_primes(bound) - rests) % number, 0)
                self.assertEqual((sum_of_squares(bound) - squares) % number, 0)

    def test_the_count_and_the_sums_grow_together(self):
        for bound in (*range(1, 200), MILLION + 3, GREAT - 9, GREAT):
            gain = int(is_prime(bound))
            self.assertEqual(many_primes(bound) - many_primes(bound - 1), gain)
            self.assertEqual(many_between(bound, bound), gain)
            self.assertEqual(sum_of_primes(bound) - sum_of_primes(bound - 1), gain * bound)
            self.assertEqual(sum_of_squares(bound) - sum_of_squares(bound - 1), gain * bound * bound)

    def test_the_count_and_rough_numbers(self):
        for bound in BOUNDS:
            many = many_primes(root(bound))
            self.assertEqual(rough(bound, many), many_primes(bound) + 1 - many)

    def test_the_steps_and_rough_numbers(self):
        primes = primes_to(1223)
        for bound in (1223 ** 2, 3 * MILLION, GREAT):
            for many in (1, 2, 3, 30, 199, 200):
                left = left_behind(bound, primes[many - 1])[0][1]
                self.assertEqual(rough(bound, many), left + 1 - many)

    def test_the_count_and_the_place_of_the_last_prime(self):
        for bound in (*BOUNDS[1:], 2 * MILLION, GREAT - 9, GREAT):
            last = last_prime(bound + 1)
            self.assertLessEqual(last, bound)
            self.assertEqual(place_of(last) + 1, many_primes(bound))

    def test_the_prime_at_that_place(self):
        for bound in (*SMALL[1:], 746777, 750000):
            last = last_prime(bound + 1)
            self.assertEqual(prime_at(many_primes(bound) - 1), last)
            self.assertEqual(prime_at(place_of(last)), last)

    def test_the_next_prime_stands_at_the_count(self):
        for bound in (0, *BOUNDS, 2 * MILLION, GREAT - 10):
            self.assertEqual(place_of(next_prime(bound)), many_primes(bound))
        for bound in (0, *SMALL, 746773):
            self.assertEqual(prime_at(many_primes(bound)), next_prime(bound))

    def test_so_many_primes_and_their_sums(self):
        for place in (0, 1, 24, 999, 9999, 60000):
            prime = prime_at(place)
            self.assertEqual(many_primes(prime), place + 1)
            self.assertEqual(sum_of_primes(prime) - sum_of_primes(prime - 1), prime)
            self.assertTrue(is_prime(prime))

    def test_papers_and_the_counts(self):
        for bound in (*range(4, 130), 360, 361, 362, 1000, 2999, 3000):
            paper = paper_of(bound)
            self.assertEqual(shows(bound, paper), many_primes(bound))
            self.assertEqual(sum(in_rests(bound, 30)), paper[-1][0][1])
            for part, left in paper[-1]:
                self.assertEqual(left, many_primes(part))

    def test_papers_and_the_steps(self):
        for bound in (4, 9, 100, 361, 3000):
            steps_of = [0] + primes_to(root(bound))
            for many, (number, table) in enumerate(zip(steps_of, paper_of(bound), strict=True)):
                self.assertEqual(table, left_behind(bound, number))
                self.assertEqual(rough(bound, many), table[0][1] + 1 - many)

    def test_papers_and_their_texts(self):
        for bound in (4, 9, 100, 361, 3000):
            self.assertEqual(shows(bound, read_paper(show_paper(paper_of(bound)))), many_primes(bound))

    def test_the_desk_and_what_it_answers_by(self):
        desk = Desk()
        for bound in (0, *BOUNDS, GREAT - 1):
            desk.say(f"bound {bound}")
            self.assertEqual(desk.say("count"), str(many_primes(bound)))
            self.assertEqual(desk.say("sum"), str(sum_of_primes(bound)))
            self.assertEqual(desk.say("squares"), str(sum_of_squares(bound)))
            self.assertEqual(desk.say("parts"), str(many_parts(bound)))
            self.assertEqual(desk.say("rests 30"), " ".join(map(str, in_rests(bound, 30))))
            self.assertEqual(desk.say("rough 20"), str(rough(bound, 20)))
            self.assertEqual(desk.say(f"next {bound}"), str(next_prime(bound)))
            self.assertEqual(desk.say(f"last {bound}"), str(last_prime(bound) or "none"))
            self.assertEqual(desk.say(f"between 5 {bound}"), str(many_between(5, bound)))

    def test_whole_parts_as_bounds(self):
        for part in whole_parts(1000):
            self.assertEqual(many_primes(part), dict(left_behind(1000, 31))[part])


class NotGoneThrough(unittest.TestCase):
    calls = ((many_primes, (GREAT,)), (many_between, (0, GREAT)), (many_between, (GREAT - 1, GREAT)),
             (sum_of_primes, (GREAT,)), (sum_of_squares, (GREAT,)), (rough, (GREAT, 200)), (in_rests, (MILLION, 30)),
             (prime_at, (60000,)), (place_of, (GREAT - 9,)), (next_prime, (10 ** 12,)), (last_prime, (10 ** 12,)),
             (paper_of, (3000,)), (shows, (3000, paper_of(3000))), (shows, (GREAT, paper_of(3000))))

    def test_only_primes_to_the_whole_root_are_asked_for(self):
        modules = (steps, rough_module, papers)
        with contextlib.ExitStack() as stack:
            watched = [stack.enter_context(mock.patch.object(module, "primes_to", wraps=primes_to)) for module in modules]
            for ask, words in self.calls:
                ask(*words)
        asked = [call for watch in watched for call in watch.call_args_list]
        self.assertTrue(all(watch.called for watch in watched))
        self.assertLessEqual(max(call.args[0] for call in asked), root(GREAT))

    def test_no_call_holds_as_much_as_all_primes(self):
        for ask, words in self.calls:
            self.assertLess(most_held(ask, *words), SOME_MEGABYTES)

    def test_fewer_rows_are_run_than_there_are_primes(self):
        for ask, words in ((many_primes, (GREAT,)), (many_between, (0, GREAT)), (sum_of_primes, (GREAT,)),
                           (sum_of_squares, (GREAT,)), (rough, (GREAT, 200)), (place_of, (GREAT - 9,)),
                           (next_prime, (GREAT,)), (last_prime, (GREAT,)), (paper_of, (3000,))):
            self.assertLess(rows_run(ask, *words), PRIMES_TO_GREAT)


if __name__ == "__main__":
    unittest.main()
