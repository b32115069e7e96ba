"""A desk that is told rows of words and answers each by a text."""

from untoldprimes.counted import many_between, many_primes
from untoldprimes.errors import NoCommand
from untoldprimes.figures import is_written_number
from untoldprimes.manieth import last_prime, next_prime, place_of, prime_at
from untoldprimes.parts import many_parts
from untoldprimes.rests import in_rests
from untoldprimes.rough import rough
from untoldprimes.sums import sum_of_primes, sum_of_squares

MOST_FIRST = 200
GREATEST_PLACE = 60000


def read_number(word):
    """The number that a word tells in figures."""
    if not is_written_number(word):
        raise NoCommand("a number is one to seven figures with no nought ahead")
    return int(word)


def read_row(words):
    """The first word of a row and its numbers."""
    if not isinstance(words, str):
        raise NoCommand("a row of words is a text")
    # Two blanks together, or one ahead or behind, give an empty word, which no row has.
    row = words.split(" ")
    return [row[0]] + [read_number(word) for word in row[1:]]


def show_counts(counts):
    """The text of counts, parted by blanks."""
    return " ".join([str(count) for count in counts])


def show_prime(prime):
    """The text of a prime or of none."""
    return "none" if prime is None else str(prime)


class Desk:
    """A desk with a bound, at first 0."""

    def __init__(self):
        self.bound = 0

    def say(self, words):
        """The answer to a row of words."""
        match read_row(words):
            case ["bound", number]:
                self.bound = number
                return "ok"
            case ["count"]:
                return str(many_primes(self.bound))
            case ["sum"]:
                return str(sum_of_primes(self.bound))
            case ["squares"]:
                return str(sum_of_squares(self.bound))
            case ["parts"]:
                return str(many_parts(self.bound))
            case ["rests", number]:
                return show_counts(in_rests(self.bound, number))
            case ["rough", many] if many <= MOST_FIRST:
                return str(rough(self.bound, many))
            case ["at", place] if place <= GREATEST_PLACE:
                return str(prime_at(place))
            case ["place", number]:
                return str(place_of(number))
            case ["next", number]:
                return show_prime(next_prime(number))
            case ["last", number]:
                return show_prime(last_prime(number))
            case ["between", low, high]:
                return str(many_between(low, high))
        raise NoCommand("a desk knows no such row")
