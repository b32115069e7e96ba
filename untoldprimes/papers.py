"""Papers: the tables of all steps of a bound, and a small checker of them."""

from untoldprimes.parts import many_parts, root, whole_parts
from untoldprimes.small import is_whole, primes_to
from untoldprimes.steps import count_to, left_behind, take_step

LEAST_BOUND = 4


def paper_of(bound):
    """The paper of a bound: what is left ahead of all steps, then behind each step in turn."""
    return [left_behind(bound, number) for number in [0] + primes_to(root(bound))]


def has_lists_of(thing, many):
    """Whether a thing is a list of lists, one or more, of so many things each."""
    if not isinstance(thing, list) or len(thing) == 0:
        return False
    return all([isinstance(one, list) and len(one) == many for one in thing])


def is_pair(thing, pair):
    """Whether a thing is a tuple of the same two whole numbers as a pair."""
    if not isinstance(thing, tuple) or len(thing) != 2:
        return False
    # A truth would be as good as 0 or 1 where only their worth is compared.
    return is_whole(thing[0]) and is_whole(thing[1]) and thing == pair


def is_table(rows, left):
    """Whether as many rows as there are whole parts are the pairs of what is left, in their order."""
    return all([is_pair(row, pair) for pair, row in zip(left.items(), rows)])


def shows(bound, thing):
    """The count of primes to a bound that a thing shows if it is a paper of the bound, None if not."""
    # Told first, so that a great bound asks for no more work than a thing of its size is worth.
    if not is_whole(bound) or bound < LEAST_BOUND or not has_lists_of(thing, many_parts(bound)):
        return None
    parts = whole_parts(bound)
    primes = primes_to(root(bound))
    left = {part: count_to(part) for part in parts}
    if len(thing) != 1 + len(primes) or not is_table(thing[0], left):
        return None
    for prime, table in zip(primes, thing[1:]):
        # So far left is what the table ahead says.
        take_step(left, parts, prime)
        if not is_table(table, left):
            return None
    return left[bound]
