"""Small primes."""

from untoldprimes.parts import root


def primes_to(bound):
    """All primes to a bound, rising."""
    unparted = [True] * (bound + 1)
    for number in range(2, root(bound) + 1):
        if unparted[number]:
            # Lesser multiples have a lesser prime that parts them.
            for multiple in range(number * number, bound + 1, number):
                unparted[multiple] = False
    return [number for number in range(2, bound + 1) if unparted[number]]


def least_prime(number):
    """The least prime that parts a number from 2 on."""
    for prime in (2, 3):
        if number % prime == 0:
            return prime
    # Behind 3 each prime stands one ahead of or one behind a multiple of 6.
    for ahead in range(5, root(number) + 1, 6):
        if number % ahead == 0:
            return ahead
        if number % (ahead + 2) == 0:
            return ahead + 2
    return number


def is_whole(thing):
    """Whether a thing is a whole number: an int that is no truth."""
    return isinstance(thing, int) and not isinstance(thing, bool)


def is_prime(thing):
    """Whether a thing, which may be anything, is a prime."""
    return is_whole(thing) and thing > 1 and least_prime(thing) == thing
