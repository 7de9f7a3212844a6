"""Values and calculations that several tests need, told without the help of the package."""

import inspect
import random
from fractions import Fraction
from math import floor, gcd

from turnedpixels.canvas import Canvas, KeepingCountingCanvas
from turnedpixels.console import Console
from turnedpixels.errors import (
    InvalidChain, InvalidNumber, InvalidOrder, InvalidPixel, InvalidPixels, InvalidScale, InvalidSix, InvalidTurn,
    InvalidWay, TooLarge, TurnError,
)
from turnedpixels.integers import nearest

LIMIT = 10 ** 15
HUGE = 10 ** 99 + 7

# Values that are no pixel, no turn, no legs and no rest, whatever the turn is.
ANY_VALUES = [
    None, True, False, 0, 1, -1, 5, HUGE, -HUGE, "", "xyx", "1,2", "2/1/0", "(2, 1, 0)",
    [], [1, 2], [2, 1, 0], [3, 4, 5], [(1, 2)], (), (1,), (1, 2, 3, 4), (None, None), (None, None, None),
    ("1", "2"), ("2", "1", "0"), ("ab",), ((1, 2), (3, 4)), ([1], [2]), ([2], 1, 0), (2, [1], 0), (2, 1, [0]),
    (True, False), (1, True), (True, 0), (0, False), (True, 0, 0), (1, False, 0), (1, 0, False), (True, True, True),
    (3, 4, None), (None, 1, 0), (2, None, 0), (0, None), (None, 0), ("", ""), ({}, {}), ((), ()), ((), (), ()),
    {}, {"p": 2, "q": 1}, {"0": 2, "1": 1, "2": 0}, {"a": {"b": {"c": {}}}}, [[[[]]]], ((((),),),),
    [None] * 400, (0,) * 400, InvalidTurn("text"), TooLarge(3), TurnError, nearest,
    (InvalidTurn("text"), 0), (0, TooLarge(3)), (2, 1, TooLarge(3)), (1, 0, TurnError),
    Canvas([]), Canvas([(1, 2), (3, 4)]), KeepingCountingCanvas([(0, 0)]), Console(), Canvas,
    (Canvas([]), 0), (1, Canvas([(1, 2)])), (Console(), 1, 0), (2, 1, Canvas([])), [Canvas([])], [(0, Console())],
]

NO_PIXELS = ANY_VALUES + [(2, 1, 0)]

# What is no turn although it is a tuple of three integers.
NO_TURNS = [
    (0, 0, 0), (0, 1, 0), (-1, 0, 0), (-2, 1, 0), (1, 1, 0), (1, -1, 0), (1, 2, 0), (1, -2, 0),
    (2, 0, 0), (3, 0, 0), (3, 1, 0), (3, -1, 0), (5, 3, 2), (2, 2, 0), (2, -2, 0), (2, 3, 0), (2, -3, 0),
    (6, 3, 0), (6, -3, 0), (9, 6, 1), (15, 10, 0), (10, 5, 0), (10, -5, 3), (1, 0, -1), (1, 0, 4),
    (2, 1, -1), (2, 1, 4), (2, -1, -1), (2, -1, 4), (2, 1, HUGE), (2, 1, -HUGE),
    (LIMIT + 1, 0, 0), (LIMIT + 1, 2, 0), (LIMIT + 1, LIMIT, 0), (LIMIT + 1, -LIMIT, 0), (LIMIT, LIMIT, 0),
    (LIMIT, -LIMIT, 0), (LIMIT, LIMIT + 1, 0), (LIMIT, 0, 0), (LIMIT, 5, 0), (LIMIT, 2, 0), (HUGE, 1, 0),
    (HUGE, HUGE - 1, 0), (2, HUGE, 0), (2, -HUGE, 0), (-HUGE, 1, 0), (3, 4, 5), (4, 3, 5),
]

WRONG_TURNS = ANY_VALUES + NO_TURNS + [(0, 0)]

STEP = ("x", 1, 2)
STEPS = [("x", -1, 2), ("y", 4, 5), ("x", -1, 2)]
NO_STEPS = [
    (), ("x",), ("x", 1), ("x", 1, 2, 3), ["x", 1, 2], "x1/2", ("X", 1, 2), ("z", 1, 2), ("", 1, 2), ("xy", 1, 2),
    ("x", 1, 0), ("y", 1, -1), ("x", 0, -HUGE), ("y", 0, 0), (1, 1, 2), (None, 1, 2), (("x",), 1, 2), (["x"], 1, 2),
    ("x", True, 2), ("x", 1, True), ("y", False, 1), ("x", None, 2), ("x", 1, None), ("y", "1", 2), ("y", 1, "2"),
    ("x", [1], 2), ("x", 1, (2,)), (1, 2, "x"), ("x", (1, 2)), {"x": (1, 2)}, (True, 1, 2), ("y", 1, False),
    ("x", InvalidPixel("text"), 2), (InvalidPixel("text"), 1, 2), (InvalidPixel, 1, 2), [STEP], (STEP,),
]
# Each value that is no chain with the index of the error; no item of the lists of ANY_VALUES is a step.
NO_CHAINS = [(value, 0 if isinstance(value, list) and len(value) <= 8 else None) for value in ANY_VALUES
             if value != []] + [
    ([STEP] * 9, None), ([None] * 9, None), ([STEP] * 400, None), ((STEP,), None), ((), None), (tuple(STEPS), None),
    ({"x": STEP}, None), (STEP, None), ("x1/2", None), ([STEP] * 8 + [None], None), ([None] * 8, 0), (list(STEP), 0),
] + [
    ([STEP] * at + [wrong], at) for at, wrong in zip([0, 1, 3, 7] * 10, NO_STEPS)
] + [([STEP, wrong, STEP, None, wrong], 1) for wrong in NO_STEPS]

# Each value that is no way, no picture, with the index of the error. None of the lists of ANY_VALUES has an item that
# is a turn; of its lists just [(1, 2)] is a picture.
WAY = [(7, 6, 0), (2, -1, 0)]
NO_ITEMS = WRONG_TURNS + [
    (4, 1, 0), (4, -1, 2), (3, 0, 0), (5, 2, 1), (LIMIT, LIMIT - 3, 0), (LIMIT, 1, 0), (LIMIT + 1, LIMIT, 0), [2, 1, 0],
    "2/1/0", ("2/1/0",), ((2, 1, 0),),
]
NO_WAYS = [(value, 0 if isinstance(value, list) and len(value) <= 120 else None) for value in ANY_VALUES
           if value != []] + [
    ([(2, 1, 0)] * 121, None), ([None] * 121, None), ([(2, 1, 0)] * 120 + [None], None), ([None] * 120, 0),
    (tuple(WAY), None), ((), None), ((2, 1, 0), None), ({"p": (2, 1, 0)}, None), ("2/1/0", None), ([2, 1, 0], 0),
    ([(1, 0, 0)] * 119 + [(4, 1, 0)], 119),
] + [([(2, 1, 3)] * at + [wrong], at) for at, wrong in zip([0, 1, 5, 119] * 60, NO_ITEMS)] + [
    (WAY + [wrong, (3, 2, 0), None], 2) for wrong in NO_ITEMS
]

PICTURE = [(-1, 0), (3, 0), (4, 0), (5, 0)]
NO_PICTURES = [(value, 0 if isinstance(value, list) and len(value) <= 400 else None) for value in ANY_VALUES
               if value not in ([], [(1, 2)])] + [
    ([(0, x) for x in range(401)], None), ([None] * 401, None), ([None] * 400, 0), (tuple(PICTURE), None), ((), None),
    ((0, 0), None), ("0,0", None), ({"x": (0, 0)}, None), ([0, 0], 0), ([(0, 0), (0, 0)], 1), ([(0, 1), (0, 0)], 1),
    ([(1, 0), (0, 5)], 1), ([(0, 0), (1, 0), (2, 0), (1, 5), None], 3), ([(0, 0), None, (0, 0)], 1),
    ([(0, x) for x in range(399)] + [(0, 0)], 399), ([(0, x) for x in range(399)] + [(0, 0, 0)], 399),
    ([(HUGE, 0), (HUGE - 1, 0)], 1), ([(-2, 0), (-1, 0), (-3, 0)], 2), ([(0, 0), (-1, 1)], 1),
] + [([(-5, at) for at in range(many)] + [wrong, (9, 9)], many)
     for many, wrong in zip([0, 1, 7, 398] * 60, NO_PIXELS)]

NO_ORDERS = [value for value in ANY_VALUES if value != "xyx"] + [
    "", "x", "xy", "xyxy", "xyx ", " xyx", "XYX", "Yxy", "yxyx", "yyx", "xxx", ("xyx",), ["xyx"], {"xyx": 1},
]
NO_SCALES = ANY_VALUES + [
    (1, 0, 0), (1, 1, -1), (0, 0, 1), (0, 0, 0), (1, 0, 2), (3, 4, 6), (2, 2, 3), (-2, -2, 3), (10 ** 30 + 1, 0, 1),
    (0, 10 ** 30 + 1, 1), (-(10 ** 30) - 1, 0, 5), (5, -(10 ** 30) - 1, 5), (10 ** 30, 10 ** 30, 10 ** 30 + 1),
    (10 ** 30 - 1, 0, 10 ** 30), (6 * 10 ** 29, 8 * 10 ** 29 - 1, 10 ** 30), (HUGE, 0, 1), (1, 0, HUGE), (1, 0, -HUGE),
    [3, 1, 2], (3, 1), (3, 1, 2, 1), (True, 1, 1), (1, True, 1), (1, 1, True), (3, None, 2), ("3", 1, 2), (3, 1, "2"),
]
NO_SIXES = ANY_VALUES + [
    (0, 0, 0), (2, 1, 0), (1, 2, 0), (1, -1, 0), (-1, 1, 0), (2, 0, 0), (0, 3, 0), (4, 2, 0), (6, 4, 1), (-3, 0, 0),
    (3, 1, -1), (3, 1, 6), (3, 1, HUGE), (3, 1, -HUGE), (LIMIT + 1, 0, 0), (0, LIMIT + 1, 0), (LIMIT + 1, 2, 0),
    (LIMIT, -1, 0), (-LIMIT, 1, 0), (-1, LIMIT, 0), (2, -LIMIT + 1, 0), (-LIMIT - 1, -2, 0), (3, -LIMIT - 1, 0),
    (HUGE, 1, 0), (1, HUGE, 0), [3, 1, 0], (3, 1), (3, 1, 0, 0), (3, True, 0), (True, 0, 0), (1, 0, False),
    (3, None, 0), ("3", 1, 0), (3, 1, "0"), (5, 1, 0), (LIMIT, LIMIT // 2, 0),
]
NO_NUMBERS = [value for value in ANY_VALUES if isinstance(value, bool) or not isinstance(value, int)] + [
    -1, -2, -5, -(10 ** 45), -HUGE, (1,), [0], "0", {"number": 1},
]

# For each parameter a right argument, wrong ones, and their error.
GOOD = {
    "turn": (4, 1, 0), "pixel": (4, 0), "order": "xyx", "way": WAY, "scale": (5, 5, 6), "six": (3, 1, 0),
    "pixels": PICTURE, "chain": STEPS, "number": 3,
}
WRONG = {
    "turn": WRONG_TURNS, "pixel": NO_PIXELS, "order": NO_ORDERS, "way": [value for value, _ in NO_WAYS],
    "scale": NO_SCALES, "six": NO_SIXES, "pixels": [value for value, _ in NO_PICTURES],
    "chain": [value for value, _ in NO_CHAINS], "number": NO_NUMBERS,
}
KINDS = {
    "turn": InvalidTurn, "pixel": InvalidPixel, "order": InvalidOrder, "way": InvalidWay, "scale": InvalidScale,
    "six": InvalidSix, "pixels": InvalidPixels, "chain": InvalidChain, "number": InvalidNumber,
}
# For the parameters whose errors tell an index: the wrong arguments with it.
INDEXES = {"way": NO_WAYS, "pixels": NO_PICTURES, "chain": NO_CHAINS}

GREAT_TURNS = [
    (LIMIT, LIMIT - 1, 0), (LIMIT, 1 - LIMIT, 3), (LIMIT, 1, 1), (LIMIT, -1, 2), (LIMIT, 3, 0),
    (LIMIT, -333333333333333, 2), (LIMIT - 1, LIMIT - 2, 3), (LIMIT - 1, 2 - LIMIT, 1), (LIMIT - 1, 2, 2),
    (999999999999989, 414213562373090, 1), (123456789012345, -98765432109872, 3), (10 ** 14, 10 ** 7 + 1, 2),
]

# Turns with a great p that keep all, and some that do not, with a small |q| or a small p - |q|.
GREAT_KEEPING = [
    (LIMIT, LIMIT - 1, 0), (LIMIT, 1 - LIMIT, 3), (LIMIT - 1, LIMIT - 2, 2), (LIMIT - 1, 2 - LIMIT, 1),
    (123456789012345, 123456789012344, 1),
]
GREAT_NARROW = [
    (LIMIT, 1, 1), (LIMIT, -1, 2), (LIMIT, 3, 0), (LIMIT - 1, 2, 2), (LIMIT - 1, -16, 3), (LIMIT - 3, -24, 0),
    (LIMIT, LIMIT - 3, 0), (LIMIT, 3 - LIMIT, 1), (LIMIT - 1, LIMIT - 6, 2), (LIMIT - 3, 24 - LIMIT, 3),
    (10 ** 14 + 1, 20, 0), (10 ** 14 + 3, -(10 ** 14) + 14, 2),
]

GREAT_PIXELS = [
    (10 ** 45 - 1, 0), (0, 10 ** 45 - 1), (1 - 10 ** 45, 10 ** 45 - 1), (-(10 ** 44), 1 - 10 ** 45), (10 ** 30, 3),
    (123456789012345678901234567890123456789012345, -987654321098765432109876543210987654321098765),
    (-314159265358979323846264338327950288419716939, 271828182845904523536028747135266249775724709),
    (10 ** 15, 1), (-(10 ** 15) - 1, 10 ** 16 + 3), (HUGE, -HUGE),
]


def small_turns(greatest, quarters=(0, 1, 2, 3)):
    """All turns with p at most greatest, and the quarters."""
    return [(p, q, k) for p in range(1, greatest + 1) for q in range(1 - p, p) for k in quarters
            if (p + q) % 2 == 1 and gcd(p, q) == 1]


def small_pixels(reach):
    """All pixels of a square about (0, 0)."""
    return [(x, y) for x in range(-reach, reach + 1) for y in range(-reach, reach + 1)]


def factor_of(turn):
    """The complex number by which a turn multiplies, as two fractions."""
    p, q, quarters = turn
    c = p * p + q * q
    real, imaginary = Fraction(p * p - q * q, c), Fraction(2 * p * q, c)
    return [(real, imaginary), (-imaginary, real), (-real, -imaginary), (imaginary, -real)][quarters]


def complex_product(one, other):
    return (one[0] * other[0] - one[1] * other[1], one[0] * other[1] + one[1] * other[0])


def fraction_place(turn, pixel):
    """The exact place of a pixel as two fractions."""
    return complex_product(factor_of(turn), pixel)


def rounded(place):
    """The pixel nearest to a place of two fractions."""
    return (floor(place[0] + Fraction(1, 2)), floor(place[1] + Fraction(1, 2)))


def plain_image(turn, pixel):
    """The image of a pixel, in integers."""
    p, q, quarters = turn
    c = p * p + q * q
    x, y = complex_product((p * p - q * q, 2 * p * q), pixel)
    x, y = [(x, y), (-y, x), (-x, -y), (y, -x)][quarters]
    return ((2 * x + c) // (2 * c), (2 * y + c) // (2 * c))


def plain_back(turn):
    p, q, quarters = turn
    return (p, -q, (4 - quarters) % 4)


def sources_by_search(turn, pixel):
    """All pixels with the image, looked for near the place that is turned back; in ascending order."""
    r, s = plain_image(plain_back(turn), pixel)
    return [(r + x, s + y) for x, y in small_pixels(2) if plain_image(turn, (r + x, s + y)) == pixel]


def r_of(n, d):
    return floor(Fraction(n, d) + Fraction(1, 2))


def led(chain, pixel):
    """The pixel that a chain leads to, by the definition."""
    x, y = pixel
    for axis, n, d in chain:
        x, y = (x + r_of(n * y, d), y) if axis == "x" else (x, y + r_of(n * x, d))
    return (x, y)


def as_fraction(value):
    """The fraction that a tuple tells; it has to be in lowest terms."""
    assert type(value) is tuple and [type(part) for part in value] == [int, int], value
    found = Fraction(*value)
    assert (found.numerator, found.denominator) == value, value
    return found


def rest_by_definition(turn, pixel):
    """m + n i = u * z - (p - q i) * w, w the image for quarters = 0."""
    p, q, _ = turn
    w = rounded(fraction_place((p, q, 0), pixel))
    first, second = complex_product((p, q), pixel), complex_product((p, -q), w)
    return (first[0] - second[0], first[1] - second[1])


def fulfils_inequalities(turn, m, n):
    """The fact of the document that tells which tuples are rests."""
    p, q, _ = turn
    h = (p * p + q * q - 1) // 2
    return abs(p * m - q * n) <= h and abs(q * m + p * n) <= h


def wrong_calls(good, wrong):
    """Arguments with wrong ones from each place on, and alone at that place: (place, arguments)."""
    for at in range(len(good)):
        for value in wrong[at]:
            yield at, good[:at] + [value] + good[at + 1:]
            for behind in range(at + 1, len(good)):
                yield at, good[:at] + [value] + good[at + 1:behind] + [wrong[behind][0]] + good[behind + 1:]
            yield at, good[:at] + [value] + [other[-1] for other in wrong[at + 1:]]


def called(function, *arguments):
    """What a call returns.

    It has to be the same by position and by name; no argument may change, and each list has to be a new one.
    """
    names = list(inspect.signature(function).parameters)
    assert len(names) == len(arguments), names
    before = repr(arguments)
    found = function(*arguments)
    again = function(**{name: value for name, value in reversed(list(zip(names, arguments)))})
    assert type(found) is type(again) and found == again, (arguments, found, again)
    if isinstance(found, list):
        kept = list(found)
        found.append("more")
        assert again == kept and function(*arguments) == kept, (arguments, kept)
        found.clear()
    assert repr(arguments) == before, (arguments, before)
    return again


def check_wrong(function):
    """Hold a function against all wrong arguments of its parameters, alone and with wrong ones behind them."""
    names = list(inspect.signature(function).parameters)
    good, wrong = [GOOD[name] for name in names], [WRONG[name] for name in names]
    function(*good)
    for at, arguments in wrong_calls(good, wrong):
        before = repr(arguments)
        for found in (raised_by(function, *arguments), raised_by(function, **dict(zip(names, arguments)))):
            assert type(found) is KINDS[names[at]], (function, arguments, found)
        assert repr(arguments) == before
    for at, name in enumerate(names):
        for value, index in INDEXES.get(name, []):
            for behind in (good[at + 1:], [None] * len(good[at + 1:])):
                found = raised_by(function, *good[:at], value, *behind)
                assert type(found) is KINDS[name], (function, value, found)
                assert found.index == index and type(found.index) is type(index), (value, found.index)


def raised_by(function, *arguments, **named):
    """The error that a call raises."""
    try:
        result = function(*arguments, **named)
    except TurnError as error:
        return error
    raise AssertionError((function, arguments, named, result))


def drawn_turns(number, least, greatest, most=None):
    """Turns by a fixed row of numbers, with p from least to greatest, and c at most as told."""
    chance, found = random.Random(number * greatest + least), []
    while len(found) < number:
        p = chance.randint(least, greatest)
        q, quarters = chance.randint(1 - p, p - 1), chance.randint(0, 3)
        if (p + q) % 2 == 1 and gcd(p, q) == 1 and (most is None or p * p + q * q <= most):
            found.append((p, q, quarters))
    return found
