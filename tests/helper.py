"""What several tests need: primes found in other ways, odd things, and watches over a call."""

import functools
import itertools
import sys
import tracemalloc

from untoldprimes.errors import NoCommand, NoPrime, NoRest, NoText, PrimeError


def by_hand(bound):
    """The primes to a bound, each number tried by all lesser ones."""
    return [n for n in range(2, bound + 1) if all(n % m for m in range(2, n))]


@functools.cache
def by_marks(bound):
    """The primes to a bound, by marks for all numbers, as a tuple."""
    marks = bytearray([0, 0]) + bytearray([1]) * (bound - 1)
    for number in range(2, int(bound ** 0.5) + 2):
        if marks[number]:
            marks[number * number::number] = bytes(len(range(number * number, bound + 1, number)))
    return tuple(itertools.compress(range(bound + 1), marks))


def deep(kind, many):
    thing = kind([7])
    for _ in range(many):
        thing = kind([thing])
    return thing


def ring():
    """A list that has itself."""
    thing = [7]
    thing.append(thing)
    return thing


class Seven:
    """An object of another class that gives itself out as 7."""

    def __eq__(self, other):
        return other == 7

    def __int__(self):
        return 7

    def __index__(self):
        return 7

    __hash__ = None


class Brittle:
    """An object that is not to be compared or tested."""

    def __eq__(self, other):
        raise RuntimeError("compared")

    __lt__ = __gt__ = __le__ = __ge__ = __eq__
    __hash__ = None

    def __bool__(self):
        raise RuntimeError("tested")


class Whole(int):
    """An int that is no truth."""


def no_numbers():
    """Things of all kinds that are no whole numbers."""
    things = [True, False, "", "7", "2\n3", "prime", b"7", None, [], [7], (), (7,), {}, {7: 7}, {7}, frozenset([7]),
              range(7), object(), Seven(), Brittle(), Seven, int, len, by_hand, lambda: 7, ValueError("7"), ring()]
    return things + [deep(kind, many) for kind in (list, tuple) for many in (10, 1000, 5000, 100000)]


def assert_refused(test, refusal, ask, *words):
    """That a call is refused, and with this refusal alone."""
    with test.assertRaises(refusal) as caught:
        ask(*words)
    test.assertIsInstance(caught.exception, PrimeError)
    test.assertIsInstance(caught.exception, ValueError)
    for other in {NoRest, NoPrime, NoText, NoCommand} - {refusal}:
        test.assertNotIsInstance(caught.exception, other)


def rows_run(ask, *words):
    """How many rows of code a call runs through."""
    many = 0

    def watch(frame, event, told):
        nonlocal many
        many += event == "line"
        return watch

    before = sys.gettrace()
    sys.settrace(watch)
    try:
        ask(*words)
    finally:
        sys.settrace(before)
    return many


def most_held(ask, *words):
    """How many bytes a call holds at most."""
    tracemalloc.start()
    try:
        ask(*words)
        return tracemalloc.get_traced_memory()[1]
    finally:
        tracemalloc.stop()
