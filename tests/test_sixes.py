"""[22], against all pixels about the exact place and counts over rows."""

import random
import unittest
from fractions import Fraction
from math import floor, gcd

from tests.samples import (
    GREAT_PIXELS, HUGE, LIMIT, NO_NUMBERS, NO_PIXELS, NO_SIXES, called, check_wrong, raised_by, small_pixels,
)
from turnedpixels.errors import InvalidNumber, InvalidPixel, InvalidSix, TooLarge
from turnedpixels.sixes import six_back, six_ball, six_image, six_keeps, six_numbers, six_place

GREAT_SIXES = [
    (LIMIT, 3, 0), (LIMIT, LIMIT - 1, 1), (-LIMIT, 1 - LIMIT, 2), (1, LIMIT, 3), (LIMIT, 1, 4), (3, -LIMIT + 3, 5),
    (-LIMIT, -3, 5), (314159265358979, 271828182845904, 0), (-414213562373095, 577350269189624, 1),
    (2 * 10 ** 14 + 1, 10 ** 14, 2), (999999999999989, 123456789012345, 3), (-1, LIMIT - 1, 4),
]


def small_sixes(greatest, sixths=(0, 1, 2, 3, 4, 5)):
    """All six-cornered turns with p, q and p - q from -greatest to greatest, and the sixths."""
    side = range(-greatest, greatest + 1)
    return [(p, q, k) for p in side for q in side for k in sixths
            if abs(p - q) <= greatest and gcd(p, q) == 1 and (p + q) % 3 != 0]


def size_of(number):
    x, y = number[:2]
    return x * x - x * y + y * y


def product_of(one, other):
    """The product of two numbers x + y w: w * w = -w - 1."""
    high = one[1] * other[1]
    return (one[0] * other[0] - high, one[0] * other[1] + one[1] * other[0] - high)


def place_by_definition(six, pixel):
    """The exact place as two fractions: (1 + w) ** sixths * u / v * z, where 1 / v is u / c."""
    p, q, sixths = six
    u, v = (p, q), (p - q, -q)
    assert product_of(u, v) == (size_of(six), 0)
    found = product_of(pixel, product_of(u, u))
    for _ in range(sixths):
        found = product_of(found, (1, 1))
    return (Fraction(found[0], size_of(six)), Fraction(found[1], size_of(six)))


def image_by_search(six, pixel):
    """The pixel at the least distance; there has to be just one."""
    x, y = place_by_definition(six, pixel)
    r, s = floor(x), floor(y)
    around = sorted((size_of((r + i - x, s + j - y)), (r + i, s + j)) for i, j in small_pixels(2))
    assert around[0][0] < around[1][0] and around[0][0] <= Fraction(1, 3)
    return around[0][1]


def quick_image(six, pixel):
    """The image, with the distances of nine pixels in integers."""
    p, q, sixths = six
    c = size_of(six)
    x, y = product_of(pixel, product_of((p, q), (p, q)))
    for _ in range(sixths):
        x, y = x - y, x
    r, s = x // c, y // c
    return min((size_of((c * (r + i) - x, c * (s + j) - y)), (r + i, s + j)) for i in (-1, 0, 1, 2) for j in (-1, 0, 1, 2))[1]


def back_by_definition(six):
    p, q, sixths = six
    return (p - q, -q, (6 - sixths) % 6)


def counted(six, first=0, y=0):
    """Of the pixels of a row of c: how many are hit twice, and how many come back."""
    c, other = size_of(six), back_by_definition(six)
    twice = returning = 0
    for x in range(first, first + c):
        r, s = quick_image(other, (x, y))
        hits = [mate for mate in [(r + i, s + j) for i, j in small_pixels(1)] if quick_image(six, mate) == (x, y)]
        assert len(hits) <= 2
        twice += len(hits) == 2
        returning += quick_image(other, quick_image(six, (x, y))) == (x, y)
    return twice, returning


class Places(unittest.TestCase):
    def check(self, six, pixel):
        c = size_of(six)
        x, y, size = called(six_place, six, pixel)
        self.assertEqual((Fraction(x, c), Fraction(y, c), size), (*place_by_definition(six, pixel), c), (six, pixel))
        found = called(six_image, six, pixel)
        self.assertEqual(found, image_by_search(six, pixel), (six, pixel))
        self.assertEqual(quick_image(six, pixel), found)

    def test_small_ones(self):
        for six in small_sixes(3):
            for pixel in small_pixels(2):
                self.check(six, pixel)
        for six in small_sixes(6, [0, 3]):
            for pixel in [(1, 0), (0, 1), (3, -2), (-7, 11), (100, 41)]:
                self.check(six, pixel)

    def test_great_ones(self):
        for six in GREAT_SIXES + small_sixes(2, [0, 5]):
            for pixel in GREAT_PIXELS + [(0, 0), (1, 0), (-3, 8)]:
                self.check(six, pixel)

    def test_all_places_in_a_rhombus(self):
        for six in small_sixes(7, [0]):
            for x in range(size_of(six)):
                self.assertEqual(six_image(six, (x, 0)), quick_image(six, (x, 0)))

    def test_sixths_and_units(self):
        found = [six_image((1, 0, sixths), (1, 0)) for sixths in range(6)]
        self.assertEqual(found, [(1, 0), (1, 1), (0, 1), (-1, 0), (-1, -1), (0, -1)])
        found = [six_image((1, 0, sixths), (5, 2)) for sixths in range(6)]
        self.assertEqual(found, [(5, 2), (3, 5), (-2, 3), (-5, -2), (-3, -5), (2, -3)])
        # u / v of the units: 1, (1 + w) / -w, w / (-1 - w) and so on.
        self.assertEqual([six_place((p, q, 0), (1, 0)) for p, q in [(1, 0), (1, 1), (0, 1), (-1, 0), (-1, -1), (0, -1)]],
                         [(1, 0, 1), (0, 1, 1), (-1, -1, 1)] * 2)


class Back(unittest.TestCase):
    def test_there_and_back(self):
        for six in small_sixes(5) + GREAT_SIXES:
            found = called(six_back, six)
            self.assertEqual(found, back_by_definition(six))
            self.assertEqual(six_back(found), six)
            c = size_of(six)
            self.assertEqual(size_of(found), c)
            for pixel in [(1, 0), (0, 1), (5, -7)]:
                x, y, _ = six_place(six, pixel)
                # The place in whole numbers, turned back, is c times the pixel.
                self.assertEqual(six_place(found, (x, y)), (c * c * pixel[0], c * c * pixel[1], c))

    def test_what_was_returned_is_a_turn(self):
        for six in small_sixes(4) + GREAT_SIXES:
            self.assertEqual(six_place(six_back(six), (0, 0)), (0, 0, size_of(six)))


class Numbers(unittest.TestCase):
    def check(self, six, first=0, y=0):
        expected = counted(six, first, y)
        self.assertEqual(called(six_numbers, six), expected, six)
        self.assertIs(called(six_keeps, six), expected[0] == 0, six)

    def test_all_small_ones(self):
        for six in small_sixes(5, [0]):
            self.check(six)
        for six in small_sixes(3):
            self.check(six)

    def test_other_rows(self):
        for six in small_sixes(4, [1]):
            self.check(six, -17, 5)
            self.check(six, 10 ** 43 + 1, -3 * 10 ** 43)

    def test_greater_ones(self):
        chance, number = random.Random(22), 0
        while number < 25:
            six = (chance.randint(-30, 30), chance.randint(-30, 30), chance.randint(0, 5))
            if gcd(*six[:2]) == 1 and sum(six[:2]) % 3 != 0 and size_of(six) <= 900:
                number += 1
                self.check(six)
        self.check((44, 3, 2))
        self.check((-17, 31, 5))

    def test_neither_sixths_nor_units_nor_the_back_turn_change_them(self):
        for six in small_sixes(9, [0]):
            others = [(*product_of(six, unit), 3) for unit in [(1, 1), (0, 1), (-1, 0), (-1, -1), (0, -1)]]
            others = [(x, y, k) for x, y, k in others if max(abs(x), abs(y), abs(x - y)) <= LIMIT]
            found = {six_numbers(other) for other in [six, six_back(six), (*six[:2], 4)] + others}
            self.assertEqual(len(found), 1, six)

    def test_too_large_just_above_the_limit(self):
        seen = []
        for p in range(-60, 61):
            for q in range(-60, 61):
                if gcd(p, q) == 1 and (p + q) % 3 != 0:
                    c = size_of((p, q))
                    if c > 2000:
                        for function in (six_numbers, six_keeps):
                            found = raised_by(function, (p, q, 1))
                            self.assertEqual((type(found), found.limit), (TooLarge, 2000))
                    elif (p, q) > (0, 0):
                        seen.append(c)
                        twice, returning = six_numbers((p, q, 0))
                        self.assertTrue(0 <= twice and twice % 6 == 0 and (returning - 1) % 6 == 0 and returning <= c)
                        self.assertEqual(six_keeps((p, q, 0)), twice == 0)
                        self.assertEqual(twice == 0, returning == c)
        self.assertEqual(max(seen), 1999)
        for six in GREAT_SIXES:
            self.assertEqual(raised_by(six_numbers, six=six).limit, 2000)


class Ball(unittest.TestCase):
    def test_it_keeps_all_and_all_come_back(self):
        for number in range(26):
            six = called(six_ball, number)
            self.assertEqual(six, (2 * number + 1, number, 0))
            c = size_of(six)
            if c <= 2000:
                self.assertEqual((six_numbers(six), six_keeps(six)), ((0, c), True))
        self.assertEqual(counted(six_ball(4)), (0, 61))

    def test_great_ones(self):
        for number in (10 ** 14, 10 ** 14 - 1, 10 ** 13 + 7):
            six = called(six_ball, number)
            self.assertEqual(six, (2 * number + 1, number, 0))
            for pixel in GREAT_PIXELS + small_pixels(2):
                self.assertEqual(six_image(six_back(six), six_image(six, pixel)), pixel)
                self.assertEqual(quick_image(six, pixel), six_image(six, pixel))

    def test_wrong_numbers(self):
        for value in NO_NUMBERS + [10 ** 14 + 1, 10 ** 15, HUGE]:
            self.assertEqual(type(raised_by(six_ball, value)), InvalidNumber, value)
            self.assertEqual(type(raised_by(six_ball, number=value)), InvalidNumber, value)


class Errors(unittest.TestCase):
    def test_each_function(self):
        for function in (six_place, six_image, six_back, six_numbers, six_keeps):
            check_wrong(function)

    def test_the_edges_of_a_turn(self):
        for six in GREAT_SIXES + [(0, 1, 0), (0, -1, 5), (1, 1, 0), (-1, -1, 2), (-1, 0, 3), (LIMIT, 0, 0)]:
            if six == (LIMIT, 0, 0):
                self.assertEqual(type(raised_by(six_back, six)), InvalidSix)
            else:
                self.assertEqual(six_place(six, (0, 0)), (0, 0, size_of(six)))
        for six in NO_SIXES:
            self.assertEqual(type(raised_by(six_image, six, None)), InvalidSix, six)
        for pixel in NO_PIXELS:
            self.assertEqual(type(raised_by(six_place, (LIMIT, 1, 4), pixel)), InvalidPixel)

    def test_each_limit(self):
        # p, q and p - q just at the limit and just above it, the rest of the conditions fulfilled.
        side = 4 * 10 ** 14
        for inside, outside in [((LIMIT, 1, 0), (LIMIT + 1, 2, 0)), ((1, LIMIT, 0), (3, LIMIT + 1, 0)),
                                ((-LIMIT, -1, 0), (-LIMIT - 1, -3, 0)), ((-1, -LIMIT, 0), (-3, -LIMIT - 1, 0)),
                                ((LIMIT - side, 3 - side, 0), (LIMIT - side, -side - 1, 0)),
                                ((side - LIMIT, side - 3, 0), (side - LIMIT, side + 1, 0))]:
            for p, q, _ in (inside, outside):
                self.assertTrue(gcd(p, q) == 1 and (p + q) % 3 != 0, (p, q))
            self.assertEqual(six_back(inside), back_by_definition(inside))
            self.assertEqual(type(raised_by(six_back, outside)), InvalidSix, outside)


if __name__ == "__main__":
    unittest.main()
