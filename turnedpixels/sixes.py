"""Six-cornered turns: pixels (x, y) stand for x + y w, w a third root of 1."""

from math import gcd, isqrt

from turnedpixels.errors import InvalidNumber, InvalidSix, TooLarge
from turnedpixels.integers import is_whole, is_whole_tuple
from turnedpixels.turns import check_pixel

GREATEST_PART = 10 ** 15
GREATEST_BALL = 10 ** 14
LONGEST_ROW = 2000
# The powers of 1 + w: what sixths of a turn multiply by.
SIXTHS = ((1, 0), (1, 1), (0, 1), (-1, 0), (-1, -1), (0, -1))


def six_place(six, pixel):
    """The tuple (X, Y, c): the turn leads the pixel to (X + Y w) / c without rounding."""
    _check_six(six)
    check_pixel(pixel)
    p, q, sixths = six
    x, y = _times(_times(_times((p, q), (p, q)), SIXTHS[sixths]), pixel)
    return (x, y, _size(p, q))


def six_image(six, pixel):
    """The pixel at the least distance from the exact place."""
    x, y, c = six_place(six, pixel)
    r, s = x // c, y // c
    # How far the place is in the rhombus of (r, s) and three others, times c. The shorter diagonal, from (r, s) to
    # (r + 1, s + 1), cuts it into two triangles; the nearest corner is one of the triangle's.
    far, high = x - c * r, y - c * s
    if 2 * max(far, high) - min(far, high) < c and far + high < c:
        return (r, s)
    if 2 * min(far, high) > max(far, high):
        return (r + 1, s + 1)
    return (r + 1, s) if far > high else (r, s + 1)


def six_back(six):
    """The turn by the opposite angle."""
    _check_six(six)
    p, q, sixths = six
    return (p - q, -q, -sixths % 6)


def six_numbers(six):
    """Of c pixels of a row how many are images of two pixels, and how many come back."""
    twice = _twice_number(six)
    p, q, _ = six
    c = _size(p, q)
    # With f of _twice_number: a pixel comes back if f * v / c lies in the hexagon, too.
    return (twice, _tuples_within(_strips(p, q, (0, 0)) + _strips(p - q, -q, (0, 0)), c))


def six_keeps(six):
    """Whether no two pixels have one image."""
    return _twice_number(six) == 0


def six_ball(number):
    """A six-cornered turn that keeps all, the first of its kind for 0."""
    if not is_whole(number) or number < 0 or number > GREATEST_BALL:
        raise InvalidNumber("not an integer from 0 to 10 ** 14")
    return (2 * number + 1, number, 0)


def _check_six(six):
    """Raise InvalidSix unless it is a six-cornered turn."""
    if not _is_six(six):
        raise InvalidSix("not a tuple (p, q, sixths) that is a six-cornered turn")


def _is_six(value):
    """Whether any value is a six-cornered turn."""
    if not is_whole_tuple(value, 3):
        return False
    p, q, sixths = value
    if max(abs(p), abs(q), abs(p - q)) > GREATEST_PART or sixths < 0 or sixths > 5:
        return False
    return (p + q) % 3 != 0 and gcd(p, q) == 1


def _size(x, y):
    """The squared size of x + y w."""
    return x * x - x * y + y * y


def _times(one, other):
    """The product of two numbers x + y w, each as a tuple of its two parts."""
    x, y = one
    r, s = other
    # w * w is -1 - w.
    return (x * r - y * s, x * s + y * r - y * s)


def _twice_number(six):
    """How many of c pixels of a row are images of two pixels."""
    _check_six(six)
    p, q, _ = six
    c = _size(p, q)
    if c > LONGEST_ROW:
        raise TooLarge(LONGEST_ROW)
    # The exact place of z less the image is f * u / c; each f = m + n w for which this lies in the hexagon about
    # (0, 0) belongs to one pixel of a row. The pixel with x + 1 has the same image if (f + u) * u / c lies there,
    # too. A sixth of a turn leads the hexagon to itself, so as many meet each of the next two neighbours around; the
    # other three neighbours tell the same pairs again.
    return 3 * _tuples_within(_strips(p, q, (0, 0)) + _strips(p, q, (p, q)), c)


def _strips(r, s, away):
    """The three tuples (i, j, k) for _tuples_within: (m + n w + away) * (r + s w) / c lies in the hexagon."""
    x, y = away
    strips = []
    # X + Y w does if |2 * X - Y|, |2 * Y - X| and |X + Y| are below c.
    for i, j in ((2 * r - s, -r - s), (2 * s - r, 2 * r - s), (r + s, r - 2 * s)):
        shift = i * x + j * y
        # None of the second numbers is 0, as r + s is not divisible by 3.
        strips.append((i, j, shift) if j > 0 else (-i, -j, -shift))
    return strips


def _tuples_within(strips, c):
    """How many tuples (m, n) of integers have |i * m + j * n + k| below c for all strips (i, j, k), j above 0."""
    number = 0
    # The corners of the hexagon are c / root of 3 away from its middle, so m, n is in a circle, and |m| at most this:
    reach = isqrt(4 * c) // 3
    for m in range(-reach, reach + 1):
        least = max([-((c - 1 + i * m + k) // j) for i, j, k in strips])
        greatest = min([(c - 1 - i * m - k) // j for i, j, k in strips])
        number += max(0, greatest - least + 1)
    return number
