"""Turns by rational angles, the legs that tell them, and where they lead a pixel."""

from math import gcd, isqrt

from turnedpixels.errors import InvalidLegs, InvalidPixel, InvalidTurn, TooLarge
from turnedpixels.integers import is_whole_tuple, nearest, times

GREATEST_P = 10 ** 15
# The powers of i: what quarter turns multiply by.
QUARTERS = ((1, 0), (0, 1), (-1, 0), (0, -1))


def is_pixel(value):
    """Whether any value is a pixel."""
    return is_whole_tuple(value, 2)


def is_turn(value):
    """Whether any value is a turn."""
    if not is_whole_tuple(value, 3):
        return False
    p, q, quarters = value
    if p < 1 or p > GREATEST_P or abs(q) >= p or quarters < 0 or quarters > 3:
        return False
    return (p + q) % 2 == 1 and gcd(p, q) == 1


def check_pixel(pixel):
    """Raise InvalidPixel unless it is a pixel."""
    if not is_pixel(pixel):
        raise InvalidPixel("not a tuple of two integers")


def check_turn(turn):
    """Raise InvalidTurn unless it is a turn."""
    if not is_turn(turn):
        raise InvalidTurn("not a tuple (p, q, quarters) that is a turn")


def legs_of(turn):
    """The legs without a common divisor above 1 that tell the turn."""
    check_turn(turn)
    p, q, quarters = turn
    a, b = times((p, q), (p, q))
    for _ in range(quarters):
        a, b = -b, a
    return (a, b, p * p + q * q)


def turn_of(legs):
    """The turn that the legs tell."""
    if not _is_legs(legs):
        raise InvalidLegs("not a tuple (a, b, c) with a * a + b * b = c * c and c from 1 on")
    return turn_by(legs)


def exact_place(turn, pixel):
    """The tuple (X, Y, c): the turn leads the pixel to (X + Y i) / c without rounding."""
    check_turn(turn)
    check_pixel(pixel)
    a, b, c = legs_of(turn)
    x, y = times((a, b), pixel)
    return (x, y, c)


def image(turn, pixel):
    """The pixel that is nearest to the exact place."""
    x, y, c = exact_place(turn, pixel)
    return (nearest(x, c), nearest(y, c))


def back(turn):
    """The turn by the opposite angle."""
    check_turn(turn)
    p, q, quarters = turn
    return (p, -q, -quarters % 4)


def joined(turn, other):
    """The turn by the sum of both angles."""
    check_turn(turn)
    check_turn(other)
    a, b, c = legs_of(turn)
    r, s, d = legs_of(other)
    x, y = times((a, b), (r, s))
    return turn_by((x, y, c * d))


def led(legs, pixel):
    """The pixel nearest to the product of a pixel with (a + b i) / c; of two the one with the greater part."""
    a, b, c = legs
    x, y = times((a, b), pixel)
    return (nearest(x, c), nearest(y, c))


def turn_by(legs):
    """The turn that the legs tell, which may have common divisors; TooLarge if its p is too great."""
    a, b, c = legs
    common = gcd(a, b)
    a, b, c = a // common, b // common, c // common
    quarters = 0
    # Without quarters, u * u = a + b i has an even b and, as |q| < p, a positive a.
    while b % 2 == 1 or a < 0:
        a, b = b, -a
        quarters += 1
    p = isqrt((c + a) // 2)
    q = isqrt((c - a) // 2)
    if p > GREATEST_P:
        raise TooLarge(GREATEST_P)
    return (p, q if b > 0 else -q, quarters)


def _is_legs(value):
    """Whether any value is legs."""
    if not is_whole_tuple(value, 3):
        return False
    a, b, c = value
    return c >= 1 and a * a + b * b == c * c
