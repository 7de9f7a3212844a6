"""Scales: enlargements, also turned ones, each pixel to the nearest place."""

from math import gcd

from turnedpixels.errors import InvalidScale
from turnedpixels.integers import floor_sum, inverse, is_whole_tuple, nearest, times
from turnedpixels.turns import check_pixel, led

GREATEST_PART = 10 ** 30


def enlarged(scale, pixel):
    """The pixel that a pixel is led to."""
    _check_scale(scale)
    check_pixel(pixel)
    return led(scale, pixel)


def class_number(scale):
    """How many classes of pixels there are."""
    _check_scale(scale)
    _, _, n = scale
    common, size, _ = _multiples(scale)
    return (n // common) * (n // common) // size


def meeting_numbers(scale):
    """How many classes have pixels led to one pixel with the next one in x, and with the next one in y."""
    _check_scale(scale)
    a, b, _ = scale
    return (_meeting_classes(scale, a, b), _meeting_classes(scale, -b, a))


def one_to_one(scale):
    """Whether no two pixels are led to one."""
    return meeting_numbers(scale) == (0, 0)


def onto(scale):
    """Whether each pixel is reached."""
    _check_scale(scale)
    a, b, n = scale
    return a * a + b * b == n * n and one_to_one(scale)


def sources_of(scale, pixel):
    """The ascending list of the pixels that are led to a pixel."""
    _check_scale(scale)
    check_pixel(pixel)
    a, b, n = scale
    size = a * a + b * b
    x, y = times((a * n, -b * n), pixel)
    r, s = nearest(x, size), nearest(y, size)
    # What is led to the pixel is at most half a diagonal away from (x + y i) / size.
    around = [(r + i, s + j) for i in (-1, 0, 1) for j in (-1, 0, 1)]
    return [mate for mate in around if led(scale, mate) == pixel]


def _check_scale(scale):
    """Raise InvalidScale unless it is a scale."""
    if not _is_scale(scale):
        raise InvalidScale("not a tuple (a, b, n) that is a scale")


def _is_scale(value):
    """Whether any value is a scale."""
    if not is_whole_tuple(value, 3):
        return False
    a, b, n = value
    if n < 1 or n > GREATEST_PART or abs(a) > GREATEST_PART or abs(b) > GREATEST_PART:
        return False
    return a * a + b * b >= n * n


def _multiples(scale):
    """The tuple (t, N, k): X + Y i is a multiple of a + b i, but for a multiple of n, exactly for certain X and Y.

    Both are multiples of t, and Y / t is k * X / t modulo N.
    """
    a, b, n = scale
    common = gcd(gcd(a, b), n)
    a, b, n = a // common, b // common, n // common
    # The common divisor of a + b i and n has no integer as a divisor, so modulo it each number is an integer, and i
    # is one, too, whose square is -1.
    size = gcd(n, a * a + b * b)
    return (common, size, -a * inverse(b, size) % size)


def _meeting_classes(scale, right, up):
    """How many classes have pixels that are led to one with those whose place is right + up i, by n, away."""
    _, _, n = scale
    common, size, factor = _multiples(scale)
    # To each class one X + Y i belongs, led to (0, 0); it is n times the place, and the other one is, too.
    left, last = _whole_part(n, right, common)
    low, high = _whole_part(n, up, common)
    if left > last or low > high:
        return 0
    many = last - left + 1
    # Of each column those from low to high that are factor * column modulo size.
    start = -factor * left
    return floor_sum(many, size, -factor, high + start) - floor_sum(many, size, -factor, low - 1 + start)


def _whole_part(n, more, common):
    """The least and the greatest number such that common times it, and this and more, by n, are rounded to 0."""
    low, high = -(n // 2), (n - 1) // 2
    return (-(-max(low, low - more) // common), min(high, high - more) // common)
