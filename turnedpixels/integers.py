"""What several modules need of integers, and of pairs of them as complex numbers."""


def is_whole(value):
    """Whether any value is an integer; True and False are none."""
    return isinstance(value, int) and not isinstance(value, bool)


def is_whole_tuple(value, size):
    """Whether any value is a tuple of so many integers."""
    return isinstance(value, tuple) and len(value) == size and all([is_whole(part) for part in value])


def nearest(number, divisor):
    """The integer nearest to number / divisor, the greater one of two; divisor is positive."""
    return (2 * number + divisor) // (2 * divisor)


def times(one, other):
    """The product of two complex numbers, each as a tuple of its two parts."""
    x, y = one
    r, s = other
    return (x * r - y * s, x * s + y * r)


def inverse(number, modulus):
    """The integer from 0 to modulus - 1 whose product with number is 1 modulo modulus.

    The two have no common divisor above 1; modulo 1 the answer is 0.
    """
    # Both before and after each round: high is past * number and low is now * number, modulo modulus.
    high, low = modulus, number % modulus
    past, now = 0, 1
    while low > 0:
        part = high // low
        high, low = low, high - part * low
        past, now = now, past - part * now
    return past % modulus
