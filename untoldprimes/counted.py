"""How many primes there are."""

from untoldprimes.steps import left_behind


def many_primes(bound):
    """How many primes there are to a bound."""
    if bound < 2:
        return 0
    # Behind all steps primes alone are left; the bound is the first of its whole parts.
    return left_behind(bound, bound)[0][1]


def many_between(low, high):
    """How many primes there are from low on to high, both counted."""
    if low > high:
        return 0
    return many_primes(high) - many_primes(low - 1)
