"""Promises 3 to 7: whole roots and whole parts."""

import unittest

from untoldprimes.parts import cube_root, many_parts, many_with, root, sum_of_parts, whole_parts


def listed_parts(bound):
    return sorted({bound // number for number in range(1, bound + 1)}, reverse=True)


def last_with_at_least(bound, part):
    """The last number that goes into the bound at least part times, found by halving."""
    low, high = 0, bound + 1
    while high - low > 1:
        middle = (low + high) // 2
        if bound // middle >= part:
            low = middle
        else:
            high = middle
    return low


def plain(test, worth):
    test.assertIs(type(worth), int)
    return worth


class Roots(unittest.TestCase):
    def check(self, ask, power, number):
        told = plain(self, ask(number))
        self.assertGreaterEqual(told, 0)
        self.assertLessEqual(told ** power, number)
        self.assertGreater((told + 1) ** power, number)

    def check_both(self, number):
        self.check(root, 2, number)
        self.check(cube_root, 3, number)

    def test_nought_and_one(self):
        for ask in (root, cube_root):
            self.assertEqual(ask(0), 0)
            self.assertEqual(ask(1), 1)

    def test_named_ones(self):
        self.assertEqual([root(n) for n in (2, 3, 4, 8, 9, 99, 100)], [1, 1, 2, 2, 3, 9, 10])
        self.assertEqual([cube_root(n) for n in (7, 8, 9, 26, 27, 999, 1000)], [1, 2, 2, 2, 3, 9, 10])
        self.assertEqual(root(10 ** 24), 10 ** 12)
        self.assertEqual(root(10 ** 24 - 1), 10 ** 12 - 1)
        self.assertEqual(cube_root(10 ** 24), 10 ** 8)
        self.assertEqual(cube_root(10 ** 24 - 1), 10 ** 8 - 1)

    def test_all_small_numbers(self):
        for number in range(3000):
            self.check_both(number)

    def test_about_powers_of_ten(self):
        for power in range(25):
            for near in (-1, 0, 1):
                self.check_both(10 ** power + near)

    def test_about_great_squares_and_cubes(self):
        for base in (12345, 94906267, 999999999989, 10 ** 12 - 1):
            for near in (-1, 0, 1):
                self.check_both(base ** 2 + near)
        for base in (4321, 208064, 99999989, 10 ** 8 - 1):
            for near in (-1, 0, 1):
                self.check_both(base ** 3 + near)


class WholeParts(unittest.TestCase):
    def test_small_ones(self):
        self.assertEqual(whole_parts(1), [1])
        self.assertEqual(whole_parts(2), [2, 1])
        self.assertEqual(whole_parts(3), [3, 1])
        self.assertEqual(whole_parts(4), [4, 2, 1])
        self.assertEqual(whole_parts(10), [10, 5, 3, 2, 1])

    def test_small_bounds_number_by_number(self):
        for bound in range(1, 400):
            told = whole_parts(bound)
            self.assertIs(type(told), list)
            self.assertEqual(told, listed_parts(bound))

    def test_great_bounds(self):
        for bound in (10 ** 5, 316 ** 2 - 1, 316 * 317, 316 * 317 - 1, 10 ** 6 - 1):
            self.assertEqual(whole_parts(bound), listed_parts(bound))

    def test_ten_million(self):
        told = whole_parts(10 ** 7)
        self.assertEqual(told, listed_parts(10 ** 7))
        self.assertEqual(len(told), 6323)
        self.assertEqual({type(part) for part in told}, {int})

    def test_a_told_list_is_the_askers_own(self):
        told = whole_parts(100)
        wanted = list(told)
        told.reverse()
        told.append(7)
        self.assertEqual(whole_parts(100), wanted)
        self.assertIsNot(whole_parts(100), whole_parts(100))

    def test_nought_has_none(self):
        self.assertEqual(whole_parts(0), [])


class ManyParts(unittest.TestCase):
    def test_nought_has_none(self):
        self.assertEqual(plain(self, many_parts(0)), 0)

    def test_beside_the_list(self):
        for bound in range(1, 1500):
            self.assertEqual(plain(self, many_parts(bound)), len(listed_parts(bound)))
        for bound in (10 ** 6, 10 ** 7 - 1, 10 ** 7):
            self.assertEqual(many_parts(bound), len(whole_parts(bound)))

    def test_about_great_squares(self):
        for base in (2, 3, 10, 1000, 999983, 10 ** 9 + 7, 10 ** 12 - 1, 10 ** 12):
            self.assertEqual(many_parts(base ** 2 - 1), 2 * base - 2)
            self.assertEqual(many_parts(base ** 2), 2 * base - 1)
            self.assertEqual(many_parts(base ** 2 + 1), 2 * base - 1)
            self.assertEqual(many_parts(base * (base + 1) - 1), 2 * base - 1)
            self.assertEqual(many_parts(base * (base + 1)), 2 * base)

    def test_the_greatest_bound(self):
        self.assertEqual(plain(self, many_parts(10 ** 24)), 2 * 10 ** 12 - 1)


class ManyWith(unittest.TestCase):
    def test_nought_has_none(self):
        for part in (1, 2, 10, 10 ** 24):
            self.assertEqual(plain(self, many_with(0, part)), 0)

    def test_small_bounds_number_by_number(self):
        for bound in range(1, 90):
            counts = {}
            for number in range(1, bound + 1):
                counts[bound // number] = counts.get(bound // number, 0) + 1
            for part in range(1, bound + 4):
                self.assertEqual(plain(self, many_with(bound, part)), counts.get(part, 0))

    def test_parts_that_no_number_has(self):
        self.assertEqual(many_with(10, 4), 0)
        self.assertEqual(many_with(10, 9), 0)
        self.assertEqual(many_with(10 ** 24, 10 ** 24 - 1), 0)

    def test_parts_beyond_the_bound(self):
        self.assertEqual(many_with(10, 11), 0)
        self.assertEqual(many_with(1, 2), 0)
        self.assertEqual(many_with(10 ** 23, 10 ** 24), 0)

    def test_the_greatest_bound(self):
        self.assertEqual(many_with(10 ** 24, 1), 5 * 10 ** 23)
        self.assertEqual(many_with(10 ** 24, 10 ** 12), 1)
        self.assertEqual(many_with(10 ** 24, 10 ** 24), 1)

    def test_great_bounds(self):
        for bound in (10 ** 7, 10 ** 12 + 39, 10 ** 18 - 1, 10 ** 24 - 1, 10 ** 24):
            for part in (1, 2, 3, 7, 1000, 999983, root(bound), root(bound) + 1, bound // 2, bound):
                wanted = last_with_at_least(bound, part) - last_with_at_least(bound, part + 1)
                self.assertEqual(many_with(bound, part), wanted)

    def test_all_together_are_the_numbers_to_the_bound(self):
        for bound in (1, 2, 100, 12345, 10 ** 6):
            self.assertEqual(sum(many_with(bound, part) for part in whole_parts(bound)), bound)

    def test_below_one_nothing_is_raised(self):
        self.assertEqual(many_with(10, 0), 0)
        self.assertEqual(many_with(10, -1), 0)


class SumOfParts(unittest.TestCase):
    def test_nought_and_one(self):
        self.assertEqual(plain(self, sum_of_parts(0)), 0)
        self.assertEqual(plain(self, sum_of_parts(1)), 1)

    def test_small_bounds_number_by_number(self):
        for bound in range(600):
            wanted = sum(bound // number for number in range(1, bound + 1))
            self.assertEqual(plain(self, sum_of_parts(bound)), wanted)

    def test_powers_of_ten(self):
        wanted = (1, 27, 482, 7069, 93668, 1166750, 13970034, 162725364, 1857511568, 20877697634,
                  231802823220)
        for power, total in enumerate(wanted):
            self.assertEqual(sum_of_parts(10 ** power), total)

    def test_one_more_adds_its_divisors(self):
        # By one more, each of its divisors goes in once more: 2 of a prime, 3 of its square.
        self.assertEqual(sum_of_parts(9999999967) - sum_of_parts(9999999966), 2)
        self.assertEqual(sum_of_parts(99991 ** 2) - sum_of_parts(99991 ** 2 - 1), 3)
        self.assertEqual(sum_of_parts(10 ** 10) - sum_of_parts(10 ** 10 - 1), 121)


if __name__ == "__main__":
    unittest.main()
