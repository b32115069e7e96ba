"""The so-manieth prime, its place, and the primes next to a number."""

from untoldprimes.counted import many_primes
from untoldprimes.errors import NoPrime
from untoldprimes.parts import greatest_within
from untoldprimes.small import is_prime, is_whole

GREATEST_PLACED = 10000000


def prime_at(place):
    """The prime of a place, from 0 on."""
    if not is_whole(place) or place < 0:
        raise NoPrime("a place is a whole number from 0 on")
    # Ahead of this prime stand as many as its place tells, so it comes right behind the greatest
    # bound that has no more of them.
    return greatest_within(place, many_primes) + 1


def place_of(number):
    """The place of a prime to 10 ** 7."""
    # Looked at first: whether a greater number is a prime could take very long to tell.
    if not is_whole(number) or number > GREATEST_PLACED or not is_prime(number):
        raise NoPrime("only a prime to 10 ** 7 has a place here")
    return many_primes(number) - 1


def next_prime(number):
    """The next prime behind a number from 0 on."""
    prime = number + 1
    while not is_prime(prime):
        prime += 1
    return prime


def last_prime(number):
    """The last prime ahead of a number from 0 on, None where there is none."""
    for lesser in range(number - 1, 1, -1):
        if is_prime(lesser):
            return lesser
    return None
