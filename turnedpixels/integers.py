"""What several modules need of integers, of fractions, and of pairs of integers as complex numbers."""

from math import gcd


def is_whole(value):
    """Whether any value is an integer; True and False are none."""
    return isinstance(value, int) and not isinstance(value, bool)


def is_whole_tuple(value, size):
    """Whether any value is a tuple of so many integers."""
    return isinstance(value, tuple) and len(value) == size and all([is_whole(part) for part in value])


def nearest(number, divisor):
    """The integer nearest to number / divisor, the greater one of two; divisor is positive."""
    return (2 * number + divisor) // (2 * divisor)


def times(one, other):
    """The product of two complex numbers, each as a tuple of its two parts."""
    x, y = one
    r, s = other
    return (x * r - y * s, x * s + y * r)


def inverse(number, modulus):
    """The integer from 0 to modulus - 1 whose product with number is 1 modulo modulus.

    The two have no common divisor above 1; modulo 1 the answer is 0.
    """
    # Both before and after each round: high is past * number and low is now * number, modulo modulus.
    high, low = modulus, number % modulus
    past, now = 0, 1
    while low > 0:
        part = high // low
        high, low = low, high - part * low
        past, now = now, past - part * now
    return past % modulus


def lowest(number, divisor):
    """The fraction number / divisor in lowest terms, with a positive denominator; divisor is not 0."""
    common = gcd(number, divisor)
    if divisor < 0:
        common = -common
    return (number // common, divisor // common)


def floor_sum(many, divisor, step, start):
    """The sum of (step * k + start) // divisor for k from 0 to many - 1; divisor is positive."""
    total = 0
    while True:
        total += many * (many - 1) // 2 * (step // divisor) + many * (start // divisor)
        step, start = step % divisor, start % divisor
        top = step * many + start
        if top < divisor:
            return total
        # What is left are the points under a line. They are counted by the other axis, where divisor and step
        # change places: as short as Euclid's way to the common divisor of both.
        many, start = top // divisor, top % divisor
        divisor, step = step, divisor
