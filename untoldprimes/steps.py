"""Steps: what is left to each whole part of a bound behind the steps of primes."""

from untoldprimes.parts import root, whole_parts
from untoldprimes.small import primes_to


def take_step(left, parts, prime):
    """Take away from left, by whole part, what the prime parts but itself.

    left stands behind the steps of all lesser primes, parts are its whole parts, falling.
    """
    lesser = left[prime - 1]
    for part in parts:
        if part < prime * prime:
            break
        # Each number taken away is the prime times one left to part // prime that is no lesser
        # prime. Falling parts find that count as it was ahead of this step.
        left[part] -= left[part // prime] - lesser


def left_behind(bound, number):
    """Tuples (whole part, how many are left to it), falling, behind the steps of all primes to number."""
    parts = whole_parts(bound)
    left = {part: part - 1 for part in parts}
    for prime in primes_to(min(number, root(bound))):
        take_step(left, parts, prime)
    return [(part, left[part]) for part in parts]
