"""Chains: rounded shears, done one after the other."""

from math import gcd

from turnedpixels.errors import InvalidChain, InvalidMatrix, InvalidNumber
from turnedpixels.integers import is_whole, is_whole_tuple, lowest, nearest
from turnedpixels.turns import check_pixel

MOST_STEPS = 8
GREATEST_REACH = 30


def is_chain(value):
    """Whether any value is a chain."""
    return isinstance(value, list) and len(value) <= MOST_STEPS and all([_is_step(item) for item in value])


def is_matrix(value):
    """Whether any value is a matrix."""
    if not is_whole_tuple(value, 5):
        return False
    a, b, c, d, e = value
    return e >= 1 and a * d - b * c == e * e and _common(value) == 1


def check_chain(chain):
    """Raise InvalidChain unless it is a chain."""
    if not isinstance(chain, list) or len(chain) > MOST_STEPS:
        raise InvalidChain(None)
    for at, item in enumerate(chain):
        if not _is_step(item):
            raise InvalidChain(at)


def check_matrix(matrix):
    """Raise InvalidMatrix unless it is a matrix."""
    if not is_matrix(matrix):
        raise InvalidMatrix("not a tuple (A, B, C, D, E) that is a matrix")


def along(chain, pixel):
    """The pixel that a chain leads to."""
    x, y = pixel
    for axis, number, divisor in chain:
        if axis == "x":
            x += nearest(number * y, divisor)
        else:
            y += nearest(number * x, divisor)
    return (x, y)


def after_chain(chain, pixel):
    """The pixel that a chain leads to."""
    check_chain(chain)
    check_pixel(pixel)
    return along(chain, pixel)


def before_chain(chain, pixel):
    """The pixel that a chain leads to a pixel."""
    check_chain(chain)
    check_pixel(pixel)
    x, y = pixel
    for axis, number, divisor in chain[::-1]:
        if axis == "x":
            x -= nearest(number * y, divisor)
        else:
            y -= nearest(number * x, divisor)
    return (x, y)


def matrix_of(chain):
    """The matrix of a chain."""
    check_chain(chain)
    a, b, c, d, e = 1, 0, 0, 1, 1
    for axis, number, divisor in chain:
        if axis == "x":
            a, b, c, d = divisor * a + number * c, divisor * b + number * d, divisor * c, divisor * d
        else:
            a, b, c, d = divisor * a, divisor * b, divisor * c + number * a, divisor * d + number * b
        e = divisor * e
    common = _common((a, b, c, d, e))
    return (a // common, b // common, c // common, d // common, e // common)


def fewest_shears(matrix):
    """The fewest steps of a chain with a matrix."""
    check_matrix(matrix)
    a, b, c, d, e = matrix
    if a == e and d == e:
        # As A * D - B * C = E * E, at least one of B and C is 0.
        return 0 if b == c else 1
    if a == e or d == e:
        return 2
    return 4 if b == 0 and c == 0 else 3


def chain_for(matrix):
    """A chain with the matrix and as few steps as possible."""
    many = fewest_shears(matrix)
    a, b, c, d, e = matrix
    if many == 0:
        return []
    if many == 1:
        return [_step("x", b, e) if c == 0 else _step("y", c, e)]
    if many == 2:
        steps = [_step("x", b, e), _step("y", c, e)]
        return steps if a == e else steps[::-1]
    if many == 3:
        return _three_steps(matrix)
    # What is left behind such a first step has a B that is not 0.
    return [("x", 1, 1)] + _three_steps((a, -a, 0, d, e))


def shows_chain(matrix, value):
    """Whether any value is a chain with the matrix."""
    check_matrix(matrix)
    return is_chain(value) and matrix_of(value) == matrix


def first_parting(chain, second, reach):
    """The least pixel of a square that the two chains lead to different pixels, or None."""
    check_chain(chain)
    check_chain(second)
    if not is_whole(reach) or reach < 0 or reach > GREATEST_REACH:
        raise InvalidNumber("not an integer from 0 to 30")
    one, other = _plain(chain), _plain(second)
    if one == other:
        return None
    for x in range(-reach, reach + 1):
        for y in range(-reach, reach + 1):
            if along(one, (x, y)) != along(other, (x, y)):
                return (x, y)
    return None


def _is_step(value):
    """Whether any value is a step of a chain."""
    if not isinstance(value, tuple) or len(value) != 3 or value[0] not in ("x", "y"):
        return False
    return is_whole_tuple(value[1:], 2) and value[2] >= 1


def _step(axis, number, divisor):
    """The step by number / divisor; divisor is not 0."""
    number, divisor = lowest(number, divisor)
    return (axis, number, divisor)


def _three_steps(matrix):
    """A chain of three steps with a matrix of which B or C is not 0."""
    a, b, c, d, e = matrix
    if c != 0:
        return [_step("x", d - e, c), _step("y", c, e), _step("x", a - e, c)]
    return [_step("y", a - e, b), _step("x", b, e), _step("y", d - e, b)]


def _plain(chain):
    """The steps of a chain in lowest terms, without those that change nothing."""
    return [_step(axis, number, divisor) for axis, number, divisor in chain if number != 0]


def _common(numbers):
    """The greatest common divisor of integers."""
    common = 0
    for number in numbers:
        common = gcd(common, number)
    return common
