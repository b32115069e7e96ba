"""How many primes have each rest by a number."""

from untoldprimes.errors import NoRest
from untoldprimes.small import is_whole
from untoldprimes.steps import table_behind

GREATEST = 30


def rests_to(part, number):
    """How many numbers from 2 to a whole part from 1 on have each rest by number."""
    counts = [(part - rest) // number + 1 for rest in range(number)]
    # Counted so far from 0 on.
    for below in (0, 1):
        counts[below % number] -= 1
    return counts


def take_step_of_rests(left, parts, prime, number):
    """Take the step of a prime where each number counts for its rest by number."""
    lesser = left[prime - 1]
    # The prime times a number of the first rest has the second one.
    moves = [(rest, rest * prime % number) for rest in range(number)]
    for part in parts:
        if part < prime * prime:
            break
        here = left[part]
        there = left[part // prime]
        for rest, moved in moves:
            here[moved] -= there[rest] - lesser[rest]


def in_rests(bound, number):
    """How many primes to a bound have each rest by number, a list for the rests from 0 on."""
    if not is_whole(number) or not 1 <= number <= GREATEST:
        raise NoRest("rests are asked by a number from 1 to 30")
    left = table_behind(
        bound,
        bound,
        lambda part: rests_to(part, number),
        lambda table, parts, prime: take_step_of_rests(table, parts, prime, number),
    )
    return left.get(bound, [0] * number)
