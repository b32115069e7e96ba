"""Steps: what is left to each whole part of a bound behind the steps of primes."""

from untoldprimes.parts import root, whole_parts
from untoldprimes.small import primes_to


def count_to(part):
    """How many numbers there are from 2 to a whole part."""
    return part - 1


def take_step(left, parts, prime, weight=1):
    """Take away from left, by whole part, what the prime parts but itself.

    left stands behind the steps of all lesser primes, parts are its whole parts, falling. weight is
    what the prime counts for, where a product counts for the product of what its factors do.
    """
    lesser = left[prime - 1]
    for part in parts:
        if part < prime * prime:
            break
        # Each number taken away is the prime times one left to part // prime that is no lesser
        # prime. Falling parts find that count as it was ahead of this step.
        left[part] -= weight * (left[part // prime] - lesser)


def table_behind(bound, number, first, step):
    """What is left by whole part, falling, behind the steps of all primes to number.

    first tells what is left to a whole part ahead of all steps, step takes the step of a prime.
    """
    parts = whole_parts(bound)
    left = {part: first(part) for part in parts}
    for prime in primes_to(min(number, root(bound))):
        step(left, parts, prime)
    return left


def left_behind(bound, number):
    """Tuples (whole part, how many are left to it), falling, behind the steps of all primes to number."""
    left = table_behind(bound, number, count_to, take_step)
    return list(left.items())
