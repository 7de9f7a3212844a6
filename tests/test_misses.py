"""[17], against the exact places as fractions."""

import unittest
from fractions import Fraction

from tests.samples import (
    GREAT_KEEPING, GREAT_NARROW, GREAT_PIXELS, GREAT_TURNS, LIMIT, NO_PIXELS, WRONG_TURNS, as_fraction, called,
    fraction_place, plain_image, small_pixels, small_turns, wrong_calls,
)
from turnedpixels.errors import InvalidPixel, InvalidTurn, TooLarge
from turnedpixels.misses import greatest_miss, mean_miss, miss, miss_parts


def size_of(turn):
    return turn[0] * turn[0] + turn[1] * turn[1]


def parts_by_definition(turn, pixel):
    """Image less exact place, as two fractions."""
    place, found = fraction_place(turn, pixel), plain_image(turn, pixel)
    return (found[0] - place[0], found[1] - place[1])


def miss_by_definition(turn, pixel):
    x, y = parts_by_definition(turn, pixel)
    return x * x + y * y


def greatest_by_the_rests(p, q):
    """The greatest miss, by all X + Y i = u * rest: to each X from -h to h one Y belongs."""
    c = p * p + q * q
    h = (c - 1) // 2
    factor = q * pow(p, -1, c) % c
    greatest, y = 0, -factor * h % c
    for x in range(-h, h + 1):
        middle = y - c if y > h else y
        greatest = max(greatest, x * x + middle * middle)
        y = (y + factor) % c
    return Fraction(greatest, c * c)


class OfAPixel(unittest.TestCase):
    def check(self, turn, pixel):
        x, y = parts_by_definition(turn, pixel)
        found = called(miss_parts, turn, pixel)
        self.assertIs(type(found), tuple)
        self.assertEqual([as_fraction(part) for part in found], [x, y], (turn, pixel))
        self.assertEqual(as_fraction(called(miss, turn, pixel)), x * x + y * y, (turn, pixel))

    def test_small_ones(self):
        for turn in small_turns(6):
            for pixel in small_pixels(3):
                self.check(turn, pixel)

    def test_greater_turns(self):
        for turn in small_turns(25, [1, 2]):
            for pixel in [(3, -5), (10 ** 44 + 1, -(10 ** 43))]:
                self.check(turn, pixel)

    def test_great_ones(self):
        for turn in GREAT_TURNS + GREAT_NARROW + GREAT_KEEPING:
            for pixel in GREAT_PIXELS + [(0, 0), (1, 0), (-1, 2)]:
                self.check(turn, pixel)

    def test_nothing_is_missed_by_quarter_turns(self):
        for quarters in range(4):
            for pixel in [(0, 0), (5, -7), GREAT_PIXELS[5]]:
                self.assertEqual(miss((1, 0, quarters), pixel), (0, 1))
                self.assertEqual(miss_parts((1, 0, quarters), pixel), ((0, 1), (0, 1)))

    def test_signs_and_lowest_terms(self):
        # Exact places: (3 + 4 i) / 5 times 1, -1, i, 5; (63 + 16 i) / 65 times 5, of which one part is 1 / 13 off.
        found = [miss_parts((2, 1, 0), pixel) for pixel in [(1, 0), (-1, 0), (0, 1), (5, 0)]]
        self.assertEqual(found, [((2, 5), (1, 5)), ((-2, 5), (-1, 5)), ((-1, 5), (2, 5)), ((0, 1), (0, 1))])
        self.assertEqual((miss_parts((8, 1, 0), (5, 0)), miss((8, 1, 0), (5, 0))), (((2, 13), (-3, 13)), (1, 13)))

    def test_wrong_arguments(self):
        kinds = [InvalidTurn, InvalidPixel]
        for function in (miss, miss_parts):
            for at, arguments in wrong_calls([(4, 1, 0), (4, 0)], [WRONG_TURNS, NO_PIXELS]):
                self.assertRaises(kinds[at], function, *arguments)
            self.assertRaises(InvalidTurn, function, pixel=None, turn=None)
            self.assertRaises(InvalidPixel, function, pixel=None, turn=(4, 1, 0))


class OfATurn(unittest.TestCase):
    def test_rows_of_small_turns(self):
        for turn in small_turns(8):
            c = size_of(turn)
            for first, y in [(0, 0), (-4, 7)]:
                row = [miss_by_definition(turn, (x, y)) for x in range(first, first + c)]
                self.assertEqual(as_fraction(called(mean_miss, turn)), sum(row) / c, turn)
                self.assertEqual(as_fraction(called(greatest_miss, turn)), max(row), turn)

    def test_rows_of_greater_turns(self):
        for p, q, _ in small_turns(16, [0]):
            if p > 8:
                turn = (p, q, p % 4)
                row = [miss_by_definition(turn, (x, -3)) for x in range(size_of(turn))]
                found = (as_fraction(mean_miss(turn)), as_fraction(greatest_miss(turn)))
                self.assertEqual(found, (sum(row) / len(row), max(row)), turn)

    def test_the_greatest_by_the_rests(self):
        for p, q, quarters in small_turns(40, [3]):
            found = as_fraction(greatest_miss((p, q, quarters)))
            self.assertEqual(found, greatest_by_the_rests(p, q), (p, q))

    def test_the_greatest_just_at_the_limit(self):
        for turn in [(1000, 1, 0), (1000, -413, 1), (1000, 997, 2), (999, -2, 3), (998, 995, 0)]:
            self.assertEqual(as_fraction(called(greatest_miss, turn)), greatest_by_the_rests(*turn[:2]), turn)

    def test_too_large(self):
        for turn in [(1001, 2, 0), (1001, -2, 3), (1001, 998, 1), (1001, 414, 2), (1002, 1, 0)] + GREAT_NARROW:
            with self.assertRaises(TooLarge) as caught:
                greatest_miss(turn)
            self.assertEqual(caught.exception.limit, 1000)
            self.assertRaises(TooLarge, greatest_miss, turn=turn)

    def test_turns_that_keep_all_are_never_too_large(self):
        for p in [1, 2, 3, 50, 999, 1000, 1001, 1002, 10 ** 9, LIMIT - 1, LIMIT]:
            for turn in [(p, p - 1, 0), (p, 1 - p, 3)]:
                expected = Fraction((p - 1) ** 2, size_of(turn))
                self.assertEqual(as_fraction(called(greatest_miss, turn)), expected, turn)
                if p < 1000:
                    self.assertEqual(expected, greatest_by_the_rests(*turn[:2]))

    def test_the_mean_of_great_turns(self):
        for turn in GREAT_TURNS + GREAT_NARROW + GREAT_KEEPING + [(1001, 2, 3)]:
            c = size_of(turn)
            # The sum of the squares of all numbers from -h to h, for x and for y, over c * c and over c.
            h = (c - 1) // 2
            expected = Fraction(2 * (h * (h + 1) * (2 * h + 1) // 3), c ** 3)
            self.assertEqual(as_fraction(called(mean_miss, turn)), expected, turn)

    def test_the_greatest_is_below_one_half(self):
        for turn in small_turns(40, [0]):
            mean, greatest = as_fraction(mean_miss(turn)), as_fraction(greatest_miss(turn))
            self.assertTrue(mean <= greatest < Fraction(1, 2) and mean < Fraction(1, 6))

    def test_wrong_turns(self):
        for function in (mean_miss, greatest_miss):
            for value in WRONG_TURNS:
                self.assertRaises(InvalidTurn, function, value)
                self.assertRaises(InvalidTurn, function, turn=value)


if __name__ == "__main__":
    unittest.main()
