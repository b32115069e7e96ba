"""Rough numbers: those that no one of the first primes parts."""

from untoldprimes.parts import root
from untoldprimes.small import primes_to
from untoldprimes.steps import left_behind


def rough(bound, many):
    """How many numbers from 1 to a bound no one of the first so many primes parts."""
    if bound < 1:
        return 0
    stepped = [0] + primes_to(root(bound))[:many]
    # Left are the first primes themselves too, and 1 is not. Where there are more of these primes
    # than those to the whole root, primes alone are left, and all of them may be among the first.
    left = left_behind(bound, stepped[-1])[0][1]
    return 1 + max(0, left - many)
