"""Rests: what tells of a pixel how its image lies to its exact place."""

from turnedpixels.errors import InvalidRest, TooLarge
from turnedpixels.integers import inverse, is_whole_tuple, nearest, times
from turnedpixels.turns import check_pixel, check_turn, image

MOST_RESTS = 2000


def rest_of(turn, pixel):
    """The rest of a pixel."""
    check_turn(turn)
    check_pixel(pixel)
    p, q, _ = turn
    m, n = times((p, q), pixel)
    # The rest is told for the turn without its quarters.
    r, s = times((p, -q), image((p, q, 0), pixel))
    return (m - r, n - s)


def is_rest(turn, value):
    """Whether any value is a rest of the turn."""
    check_turn(turn)
    if not is_whole_tuple(value, 2):
        return False
    p, q, _ = turn
    half = (p * p + q * q - 1) // 2
    x, y = times((p, q), value)
    return abs(x) <= half and abs(y) <= half


def same_rest(turn, pixel, mate):
    """Whether two pixels have the same rest."""
    check_turn(turn)
    check_pixel(pixel)
    check_pixel(mate)
    return rest_of(turn, pixel) == rest_of(turn, mate)


def first_with(turn, rest):
    """The pixel (x, 0) with the least x from 0 on that has the rest."""
    check_turn(turn)
    _check_rest(turn, rest)
    p, q, _ = turn
    c = p * p + q * q
    # u * u * x - u * rest is c times the image, so a * x and p * m - q * n are the same modulo c.
    # For a multiple of u the other part follows; a has no common divisor with c.
    a = p * p - q * q
    r, _ = times((p, q), rest)
    return (r * inverse(a, c) % c, 0)


def nearest_with(turn, rest, pixel):
    """The pixel with the rest that is nearest to a pixel."""
    check_turn(turn)
    _check_rest(turn, rest)
    check_pixel(pixel)
    p, q, _ = turn
    c = p * p + q * q
    first, _ = first_with(turn, rest)
    x, y = pixel
    # The pixels with one rest are the first one and what differs from it by a multiple of p - q i.
    # The nearest multiple is the only one: c is odd, so neither part is rounded from a half.
    r, s = times((p, q), (x - first, y))
    r, s = times((p, -q), (nearest(r, c), nearest(s, c)))
    return (first + r, s)


def all_rests(turn):
    """The ascending list of all rests."""
    check_turn(turn)
    p, q, _ = turn
    if p * p + q * q > MOST_RESTS:
        raise TooLarge(MOST_RESTS)
    # The rests fill a turned square, the corners of which are less than (p + |q|) / 2 away from both axes.
    side = (p + abs(q)) // 2
    rests = []
    for m in range(-side, side + 1):
        least, greatest = _row_ends(p, q, m)
        rests.extend([(m, n) for n in range(least, greatest + 1)])
    return rests


def _row_ends(p, q, m):
    """The least and the greatest n such that (m, n) is a rest; the greatest is below the least if there is none."""
    half = (p * p + q * q - 1) // 2
    # |q * m + p * n| is at most half.
    least, greatest = -((half + q * m) // p), (half - q * m) // p
    if q != 0:
        # |p * m - q * n| is at most half, too.
        size = abs(q)
        shift = p * m if q > 0 else -p * m
        least, greatest = max(least, -((half - shift) // size)), min(greatest, (half + shift) // size)
    return (least, greatest)


def _check_rest(turn, rest):
    """Raise InvalidRest unless it is a rest of the turn."""
    if not is_rest(turn, rest):
        raise InvalidRest("not a rest of the turn")
