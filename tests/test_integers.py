"""The helpers that several modules share."""

import unittest
from fractions import Fraction
from math import floor, gcd

from tests.samples import ANY_VALUES, HUGE
from turnedpixels.integers import inverse, is_whole, is_whole_tuple, nearest, times


class Integers(unittest.TestCase):
    def test_is_whole(self):
        for value in (0, 1, -1, HUGE, -HUGE):
            self.assertIs(is_whole(value), True)
        for value in ANY_VALUES:
            self.assertIs(is_whole(value), isinstance(value, int) and not isinstance(value, bool))

    def test_is_whole_tuple(self):
        for value in [(), (1,), (1, -2), (0, HUGE, 3)]:
            self.assertEqual([is_whole_tuple(value, size) for size in range(4)],
                             [size == len(value) for size in range(4)], value)
        for value in [(True,), (1, False), (1, None), (1, "2"), ((1,),), [], [1, 2], None, "12", "", 12, {}, {1: 2}]:
            self.assertEqual([is_whole_tuple(value, size) for size in range(4)], [False] * 4, value)

    def test_nearest(self):
        for number in range(-30, 31):
            for divisor in range(1, 12):
                self.assertEqual(nearest(number, divisor), floor(Fraction(number, divisor) + Fraction(1, 2)))

    def test_times(self):
        for x, y, r, s in [(1, 2, 3, 4), (0, 1, 0, 1), (-5, 7, 2, -3), (HUGE, 1, -1, HUGE)]:
            self.assertEqual(times((x, y), (r, s)), (x * r - y * s, x * s + y * r))

    def test_inverse(self):
        for modulus in range(1, 60):
            for number in range(-70, 70):
                if gcd(number, modulus) == 1:
                    self.assertEqual(inverse(number, modulus), pow(number, -1, modulus))
        self.assertEqual(inverse(3 * HUGE, 10 ** 30 + 57), pow(3 * HUGE, -1, 10 ** 30 + 57))


if __name__ == "__main__":
    unittest.main()
