"""Ways: turns that keep all, one after the other, and so any turn without loss."""

from math import gcd

from turnedpixels.errors import InvalidWay, TooLarge
from turnedpixels.integers import inverse, lowest, times
from turnedpixels.losses import keeps_all
from turnedpixels.turns import QUARTERS, back, check_pixel, check_turn, is_turn, joined, led, legs_of, turn_by

MOST_ITEMS = 120
GREATEST_SIZE = 10 ** 10


def is_way(value):
    """Whether any value is a way."""
    return isinstance(value, list) and len(value) <= MOST_ITEMS and all([_is_keeping(item) for item in value])


def check_way(way):
    """Raise InvalidWay unless it is a way."""
    if not isinstance(way, list) or len(way) > MOST_ITEMS:
        raise InvalidWay(None)
    for at, item in enumerate(way):
        if not _is_keeping(item):
            raise InvalidWay(at)


def way_for(turn):
    """A way whose product is the turn, with at most log2 c items whose q is not 0."""
    check_turn(turn)
    p, q, _ = turn
    if p * p + q * q > GREATEST_SIZE:
        raise TooLarge(GREATEST_SIZE)
    way, forth = [], True
    # The turn is an item less another turn, the c of which is less than half: that one is done next, to the other
    # side.
    while turn[1] != 0:
        item = _multiple(turn)
        way.append(item if forth else back(item))
        turn = joined(item, back(turn))
        forth = not forth
    if turn[2] != 0:
        way.append(turn if forth else back(turn))
    return way


def product(way):
    """The turn by the sum of the angles of a way."""
    check_way(way)
    return turn_by(_legs_along(way))


def shows_way(turn, value):
    """Whether any value is a way whose angles add up to that of the turn."""
    check_turn(turn)
    return is_way(value) and _legs_along(value) == legs_of(turn)


def walked(way, pixel):
    """The pixel that a pixel is walked to."""
    check_way(way)
    check_pixel(pixel)
    return led_along([legs_of(item) for item in way], pixel)


def walked_back(way, pixel):
    """The pixel that is walked to a pixel."""
    check_way(way)
    check_pixel(pixel)
    # Of a turn that keeps all each pixel comes back, so the back turn undoes it.
    return led_along([legs_of(back(item)) for item in way[::-1]], pixel)


def led_along(stages, pixel):
    """The pixel that a pixel is led to by the turns that a list of legs tells, one after the other."""
    for legs in stages:
        pixel = led(legs, pixel)
    return pixel


def way_miss(way, pixel):
    """The squared distance of the walked pixel from where the sum of the angles leads, a fraction."""
    r, s = walked(way, pixel)
    a, b, c = _legs_along(way)
    x, y = times((a, b), pixel)
    far, high = r * c - x, s * c - y
    return lowest(far * far + high * high, c * c)


def way_bound(way):
    """The fraction n * n / 2, n the number of items whose q is not 0."""
    check_way(way)
    number = len([item for item in way if item[1] != 0])
    return lowest(number * number, 2)


def _is_keeping(value):
    """Whether any value is a turn that keeps all."""
    return is_turn(value) and keeps_all(value)


def _multiple(turn):
    """A turn that keeps all; its p + q i, but for a unit, is a multiple of that of the turn, whose q is not 0."""
    p, q, _ = turn
    c = p * p + q * q
    # p + q i is a divisor of m - i. So it is one of k + 1 + k i with m = 2 * k + 1, because 1 + i, which is left
    # over, has no common divisor with it; if m is -(2 * k + 1), of k + 1 - k i. As |m| is below c, what remains of
    # (m * m + 1) / 2 without c is less than c / 2.
    m = -p * inverse(q, c) % c
    if m % 2 == 0:
        m -= c
    k = abs(m) // 2
    return (k + 1, k if m > 0 else -k, 0)


def _legs_along(way):
    """The legs without a common divisor above 1 that tell the sum of the angles of a way."""
    u, quarters = (1, 0), 0
    for p, q, more in way:
        u = times(u, (p, q))
        quarters += more
    x, y = u
    # Without integers as divisors there is no conjugate beside a divisor of u, so the square has none either.
    common = gcd(x, y)
    x, y = x // common, y // common
    a, b = times(times((x, y), (x, y)), QUARTERS[quarters % 4])
    return (a, b, x * x + y * y)
