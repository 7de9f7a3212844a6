"""Turns by three rounded shears: they lose nothing, but lead some pixels a little farther from the exact places."""

from turnedpixels.chains import along, before_chain
from turnedpixels.errors import InvalidOrder, TooLarge
from turnedpixels.integers import lowest, times
from turnedpixels.turns import QUARTERS, check_pixel, check_turn, exact_place

MOST_TALLIED = 20000


def check_order(order):
    """Raise InvalidOrder unless it is one of the two orders of shears."""
    if order not in ("xyx", "yxy"):
        raise InvalidOrder("neither xyx nor yxy")


def shear_chain(turn, order):
    """The chain of three steps that does what the turn without its quarters does, but for the rounding."""
    check_turn(turn)
    check_order(order)
    p, q, _ = turn
    b, c = 2 * p * q, p * p + q * q
    if order == "xyx":
        return [("x", -q, p), ("y", b, c), ("x", -q, p)]
    return [("y", q, p), ("x", -b, c), ("y", q, p)]


def sheared(turn, order, pixel):
    """The pixel that a pixel is led to by the shears and the quarters."""
    chain = shear_chain(turn, order)
    check_pixel(pixel)
    return sheared_by(chain, turn, pixel)


def sheared_by(chain, turn, pixel):
    """The pixel that a pixel is led to by the chain and the quarters of the turn."""
    return times(along(chain, pixel), QUARTERS[turn[2]])


def unsheared(turn, order, pixel):
    """The pixel that is led to a pixel by the shears and the quarters."""
    chain = shear_chain(turn, order)
    check_pixel(pixel)
    return before_chain(chain, times(pixel, QUARTERS[-turn[2] % 4]))


def shear_miss(turn, order, pixel):
    """The squared distance of the sheared pixel from the exact place, a fraction."""
    r, s = sheared(turn, order, pixel)
    x, y, c = exact_place(turn, pixel)
    far, high = r * c - x, s * c - y
    return lowest(far * far + high * high, c * c)


def shear_bound(turn):
    """A fraction that no shear_miss of the turn is above."""
    check_turn(turn)
    p, q, _ = turn
    q = abs(q)
    a, b, c = p * p - q * q, 2 * p * q, p * p + q * q
    # Both parts of the sum with the denominator 2 * p * c.
    far, high = a * p + q * c + p * c, p * b + p * c
    return lowest(far * far + high * high, (2 * p * c) * (2 * p * c))


def shear_tally(turn, order):
    """How many of c * p pixels are sheared to their image, and the greatest shear_miss."""
    check_turn(turn)
    check_order(order)
    p, q, _ = turn
    # With x and y exchanged, yxy shears as xyx of the opposite angle; with -y in the place of y the opposite angle
    # shears alike (the middle step never rounds a half). So one of the four is enough.
    q = abs(q)
    c = p * p + q * q
    if c * p > MOST_TALLIED:
        raise TooLarge(MOST_TALLIED)
    near, greatest = 0, 0
    # What the outer steps add by rounding, times p.
    roundings = range(-((p - 1) // 2), p // 2 + 1)
    for first in roundings:
        for third in roundings:
            number, far = _tally_part(p, q, first, third)
            near += number
            greatest = max(greatest, far)
    return (near, lowest(greatest, c * c))


def _tally_part(p, q, first, third):
    """Of the pixels with these roundings of the outer steps how many are near, and the greatest miss times c * c."""
    a, c = p * p - q * q, p * p + q * q
    half = (c - 1) // 2
    # What the middle step adds by rounding, times c, is each number from -half to half once for each first; with it,
    # third is first + second / q modulo p. Sheared less exact place is, times c,
    # (c * third + a * first - q * second) / p and second + 2 * q * first.
    base, shift = c * third + a * first, 2 * q * first
    start = q * (third - first)
    least, greatest = -half + (start + half) % p, half - (half - start) % p
    # A square grows to both sides, so one of the two ends is the farthest.
    ends = [((base - q * second) // p, second + shift) for second in (least, greatest)]
    far = max([x * x + y * y for x, y in ends])
    least, greatest = max(least, -half - shift), min(greatest, half - shift)
    if q > 0:
        least, greatest = max(least, -((p * half - base) // q)), min(greatest, (base + p * half) // q)
    # So many of least to greatest are start modulo p.
    return (max(0, (greatest - start) // p - (least - 1 - start) // p), far)
