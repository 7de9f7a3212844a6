"""The helpers that several modules share."""

import unittest
from fractions import Fraction
from math import floor, gcd

from tests.samples import ANY_VALUES, HUGE
from turnedpixels.integers import floor_sum, inverse, is_whole, is_whole_tuple, lowest, nearest, times


class Integers(unittest.TestCase):
    def test_is_whole(self):
        for value in (0, 1, -1, HUGE, -HUGE):
            self.assertIs(is_whole(value), True)
        for value in ANY_VALUES:
            self.assertIs(is_whole(value), isinstance(value, int) and not isinstance(value, bool))

    def test_is_whole_tuple(self):
        for value in [(), (1,), (1, -2), (0, HUGE, 3)]:
            self.assertEqual([is_whole_tuple(value, size) for size in range(4)],
                             [size == len(value) for size in range(4)], value)
        for value in [(True,), (1, False), (1, None), (1, "2"), ((1,),), [], [1, 2], None, "12", "", 12, {}, {1: 2}]:
            self.assertEqual([is_whole_tuple(value, size) for size in range(4)], [False] * 4, value)

    def test_nearest(self):
        for number in range(-30, 31):
            for divisor in range(1, 12):
                self.assertEqual(nearest(number, divisor), floor(Fraction(number, divisor) + Fraction(1, 2)))

    def test_times(self):
        for x, y, r, s in [(1, 2, 3, 4), (0, 1, 0, 1), (-5, 7, 2, -3), (HUGE, 1, -1, HUGE)]:
            self.assertEqual(times((x, y), (r, s)), (x * r - y * s, x * s + y * r))

    def test_inverse(self):
        for modulus in range(1, 60):
            for number in range(-70, 70):
                if gcd(number, modulus) == 1:
                    self.assertEqual(inverse(number, modulus), pow(number, -1, modulus))
        self.assertEqual(inverse(3 * HUGE, 10 ** 30 + 57), pow(3 * HUGE, -1, 10 ** 30 + 57))

    def test_lowest(self):
        for number in range(-20, 21):
            for divisor in [*range(-20, 0), *range(1, 21)]:
                expected = Fraction(number, divisor)
                self.assertEqual(lowest(number, divisor), (expected.numerator, expected.denominator))
        self.assertEqual(lowest(-6 * HUGE, -4 * HUGE), (3, 2))

    def test_floor_sum(self):
        for divisor in range(1, 9):
            for step in range(-10, 11):
                for start in range(-12, 13):
                    total = 0
                    for many in range(12):
                        self.assertEqual(floor_sum(many, divisor, step, start), total)
                        total += (step * many + start) // divisor

    def test_great_floor_sums(self):
        for many, divisor, step, start in [(HUGE, 7, 3, 5), (10 ** 40, 9, -4, 10 ** 20), (10 ** 50 + 3, 12, 35, -1)]:
            # Each divisor numbers more, a group, bring as much as the group ahead of it and divisor * step more.
            group = sum((step * k + start) // divisor for k in range(divisor))
            groups, left = many // divisor, many % divisor
            last = sum((step * (groups * divisor + k) + start) // divisor for k in range(left))
            expected = groups * group + divisor * step * (groups * (groups - 1) // 2) + last
            self.assertEqual(floor_sum(many, divisor, step, start), expected)


if __name__ == "__main__":
    unittest.main()
