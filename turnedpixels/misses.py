"""Misses: how far the images are from the exact places."""

from turnedpixels.errors import TooLarge
from turnedpixels.integers import lowest
from turnedpixels.losses import keeps_all
from turnedpixels.rests import rest_of
from turnedpixels.turns import check_turn, exact_place, image

GREATEST_SEARCHED = 1000


def miss(turn, pixel):
    """The squared distance of the image from the exact place, a fraction."""
    m, n = rest_of(turn, pixel)
    p, q, _ = turn
    return lowest(m * m + n * n, p * p + q * q)


def mean_miss(turn):
    """The mean of the misses of c pixels of a row one after the other."""
    check_turn(turn)
    p, q, _ = turn
    c = p * p + q * q
    # The rests times u take each real part from -h to h once, and so each imaginary part: the sum of the squares
    # of both is h * (h + 1) * c * 2 / 3 = (c * c - 1) * c / 6, and c times the squares of the rests.
    return lowest(c * c - 1, 6 * c * c)


def greatest_miss(turn):
    """The greatest miss of all pixels."""
    keeping = keeps_all(turn)
    p, q, _ = turn
    q = abs(q)
    c = p * p + q * q
    if keeping:
        # The rests are the tuples (m, n) with |m| + |n| at most |q|.
        return lowest(q * q, c)
    if p > GREATEST_SEARCHED:
        raise TooLarge(GREATEST_SEARCHED)
    # A quarter turn leads rests to rests, so those with m and n from 0 on are enough; of each m the greatest n.
    half = (c - 1) // 2
    ends = [(m, (half - q * m) // p) for m in range((p + q) // 2 + 1)]
    return lowest(max([m * m + n * n for m, n in ends if p * m - q * n <= half]), c)


def miss_parts(turn, pixel):
    """The tuple of the two fractions, image less exact place, x and y."""
    x, y, c = exact_place(turn, pixel)
    r, s = image(turn, pixel)
    return (lowest(r * c - x, c), lowest(s * c - y, c))
