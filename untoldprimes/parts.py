"""Whole roots and whole parts."""


def square(number):
    """The square of a number."""
    return number * number


def cube(number):
    """The cube of a number."""
    return number * number * number


def greatest_within(number, told):
    """The greatest whole number from 0 on of which told, a function that never falls, tells at most number."""
    high = 1
    while told(high) <= number:
        high *= 2
    low = high // 2
    while high - low > 1:
        middle = (low + high) // 2
        if told(middle) <= number:
            low = middle
        else:
            high = middle
    return low


def root(number):
    """The whole root of a number from 0 on."""
    return greatest_within(number, square)


def cube_root(number):
    """The whole cube root of a number from 0 on."""
    return greatest_within(number, cube)


def whole_parts(bound):
    """The unlike whole parts of a bound by all numbers from 1 to it, falling."""
    parts = []
    number = 1
    while number <= bound:
        part = bound // number
        parts.append(part)
        # bound // part is the last number with this whole part, so the next one has a lesser.
        number = bound // part + 1
    return parts


def many_parts(bound):
    """How many unlike whole parts a bound has."""
    least = root(bound)
    # The numbers to the whole root have unlike whole parts, and each of these numbers is one too;
    # the root is then told twice where it is its own whole part.
    if bound < least * (least + 1):
        return 2 * least - 1
    return 2 * least


def many_with(bound, part):
    """How many numbers from 1 on have this whole part of the bound."""
    if part < 1:
        return 0
    # As many numbers have a whole part of at least part as part goes into the bound.
    return bound // part - bound // (part + 1)


def sum_of_parts(bound):
    """The sum of the whole parts of a bound by all numbers from 1 to it."""
    least = root(bound)
    # The sum counts the pairs whose product is at most the bound. One of the two is at most the
    # whole root, so going to the root suffices; pairs with both at most the root come twice.
    return 2 * sum(bound // number for number in range(1, least + 1)) - least * least
