"""Sums of all primes to a bound and of their squares."""

from untoldprimes.parts import square
from untoldprimes.steps import table_behind, take_step


def sum_to(part):
    """The sum of the numbers from 2 to a whole part."""
    return part * (part + 1) // 2 - 1


def squares_to(part):
    """The sum of the squares of the numbers from 2 to a whole part."""
    return part * (part + 1) * (2 * part + 1) // 6 - 1


def take_step_of_sums(left, parts, prime):
    """Take the step of a prime where each number counts for itself."""
    take_step(left, parts, prime, prime)


def take_step_of_squares(left, parts, prime):
    """Take the step of a prime where each number counts for its square."""
    take_step(left, parts, prime, square(prime))


def sum_of_primes(bound):
    """The sum of all primes to a bound."""
    left = table_behind(bound, bound, sum_to, take_step_of_sums)
    return left.get(bound, 0)


def sum_of_squares(bound):
    """The sum of the squares of all primes to a bound."""
    left = table_behind(bound, bound, squares_to, take_step_of_squares)
    return left.get(bound, 0)
