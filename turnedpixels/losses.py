"""Losses: of c pixels of a row one after the other, how many meet, stay bare and come back."""

from math import isqrt

from turnedpixels.errors import InvalidNumber
from turnedpixels.integers import floor_sum, inverse, is_whole, lowest
from turnedpixels.turns import check_turn


def keeps_all(turn):
    """Whether no two pixels meet."""
    check_turn(turn)
    p, q, _ = turn
    return p == abs(q) + 1


def twice_number(turn):
    """How many of c pixels of a row are images of two pixels; as many are bare."""
    check_turn(turn)
    p, q, _ = turn
    # The turn by the opposite angle and quarter turns have as many.
    return 2 * _pairs_in_row(p, abs(q))


def back_number(turn):
    """How many of c pixels of a row come back."""
    check_turn(turn)
    p, q, _ = turn
    q = abs(q)
    half = (p * p + q * q - 1) // 2
    # These are the rests (m, n) with p * |m| + q * |n| and q * |m| + p * |n| at most half: (0, 0), four axes, four
    # diagonals, and eight parts like that with m > n > 0, where the first of the two is the greater.
    rows = max(0, (half - p) // (p + q))
    part = floor_sum(rows, p, -q, half - q) - rows * (rows + 1) // 2
    return 1 + 4 * (half // p) + 4 * (half // (p + q)) + 8 * part


def bare_share(turn):
    """The fraction of bare pixels."""
    twice = twice_number(turn)
    p, q, _ = turn
    return lowest(twice, p * p + q * q)


def kinds_of(turn):
    """How many of c pixels of a row meet none and come back, meet none and do not, and meet another one."""
    twice, returning = twice_number(turn), back_number(turn)
    p, q, _ = turn
    # Of the two pixels that meet at a place just one comes back.
    return (returning - twice, p * p + q * q - returning - twice, 2 * twice)


def keeping_number(number):
    """How many turns with c at most number keep all, whatever the size of p."""
    if not is_whole(number) or number < 0:
        raise InvalidNumber("not an integer from 0 on")
    if number < 1:
        return 0
    # They have p = k + 1 and |q| = k, so 2 * c = (2 * k + 1) ** 2 + 1; q has two signs unless k is 0.
    greatest = (isqrt(2 * number - 1) - 1) // 2
    return 4 + 8 * greatest


def _pairs_in_row(p, q):
    """How many of c pixels of a row meet the one with x + 1; as many meet the one with y + 1. q is not negative."""
    c = p * p + q * q
    half = (c - 1) // 2
    # X + Y i, the rest times u, grows by a + b i from a pixel to the next one. So both have one image if X is from
    # -half to half - a and Y from -half to half - b: so many X and so many Y.
    wide, high = 2 * q * q, (p - q) * (p - q)
    # To each X one Y belongs, factor * X modulo c.
    factor = q * inverse(p, c) % c
    start = half - factor * half
    return floor_sum(wide, c, factor, start) - floor_sum(wide, c, factor, start - high)
