"""[18], with the chains of [8] done step by step."""

import unittest
from fractions import Fraction

from tests.samples import (
    GREAT_PIXELS, GREAT_TURNS, LIMIT, as_fraction, called, check_wrong, drawn_turns, fraction_place, led, plain_image,
    raised_by, small_pixels, small_turns,
)
from turnedpixels.errors import InvalidOrder, InvalidPixel, InvalidTurn, TooLarge
from turnedpixels.shears import shear_bound, shear_chain, shear_miss, shear_tally, sheared, unsheared

ORDERS = ("xyx", "yxy")
MIDDLE_TURNS = drawn_turns(60, 10, 1000) + drawn_turns(20, 10 ** 6, 10 ** 9) + drawn_turns(20, 10 ** 14, LIMIT)


def chain_by_definition(turn, order):
    p, q, _ = turn
    c, b = p * p + q * q, 2 * p * q
    if order == "xyx":
        return [("x", -q, p), ("y", b, c), ("x", -q, p)]
    return [("y", q, p), ("x", -b, c), ("y", q, p)]


def sheared_by_definition(turn, order, pixel):
    x, y = led(chain_by_definition(turn, order), pixel)
    for _ in range(turn[2]):
        x, y = -y, x
    return (x, y)


def miss_by_definition(turn, order, pixel):
    x, y = fraction_place(turn, pixel)
    r, s = sheared_by_definition(turn, order, pixel)
    return (r - x) ** 2 + (s - y) ** 2


def rectangle(turn, order):
    p, q, _ = turn
    found = [(x, y) for x in range(p * p + q * q) for y in range(p)]
    return found if order == "xyx" else [(y, x) for x, y in found]


def tally_by_walking(turn, order):
    """The tally by a walk through the rectangle, in integers; the squared distances times c * c."""
    p, q, _ = turn
    c = p * p + q * q
    a, b = p * p - q * q, 2 * p * q
    near, greatest = 0, 0
    for x, y in rectangle((p, q, 0), order):
        r, s = x, y
        if order == "xyx":
            r += (-2 * q * s + p) // (2 * p)
            s += (2 * b * r + c) // (2 * c)
            r += (-2 * q * s + p) // (2 * p)
        else:
            s += (2 * q * r + p) // (2 * p)
            r += (-2 * b * s + c) // (2 * c)
            s += (2 * q * r + p) // (2 * p)
        near += (r, s) == plain_image((p, q, 0), (x, y))
        greatest = max(greatest, (r * c - a * x + b * y) ** 2 + (s * c - b * x - a * y) ** 2)
    return (near, Fraction(greatest, c * c))


class Shearing(unittest.TestCase):
    def check(self, turn, pixel):
        for order in ORDERS:
            found = sheared(turn, order, pixel)
            self.assertEqual(found, sheared_by_definition(turn, order, pixel), (turn, order, pixel))
            self.assertEqual(unsheared(turn, order, found), pixel, (turn, order, pixel))
            self.assertEqual(sheared_by_definition(turn, order, unsheared(turn, order, pixel)), pixel)
            expected = miss_by_definition(turn, order, pixel)
            self.assertEqual(as_fraction(shear_miss(turn, order, pixel)), expected, (turn, order, pixel))
            self.assertLessEqual(expected, as_fraction(shear_bound(turn)), (turn, order, pixel))

    def test_the_chains(self):
        for turn in small_turns(9) + MIDDLE_TURNS + GREAT_TURNS:
            for order in ORDERS:
                self.assertEqual(called(shear_chain, turn, order), chain_by_definition(turn, order))

    def test_each_chain_is_new(self):
        shear_chain((4, 1, 0), "xyx").clear()
        self.assertEqual(shear_chain((4, 1, 0), "xyx"), [("x", -1, 4), ("y", 8, 17), ("x", -1, 4)])
        self.assertEqual(shear_chain((4, -1, 2), "yxy"), [("y", -1, 4), ("x", 8, 17), ("y", -1, 4)])
        self.assertEqual(shear_chain((1, 0, 3), "xyx"), [("x", 0, 1), ("y", 0, 1), ("x", 0, 1)])

    def test_small_turns_and_pixels(self):
        for turn in small_turns(9):
            for pixel in small_pixels(2) + [(5, -7), (-12, 31)]:
                self.check(turn, pixel)

    def test_greater_turns_and_pixels(self):
        for turn in MIDDLE_TURNS + GREAT_TURNS:
            for pixel in small_pixels(1) + [(123, -456)] + GREAT_PIXELS:
                self.check(turn, pixel)
        for turn in small_turns(4):
            for pixel in GREAT_PIXELS:
                self.check(turn, pixel)

    def test_by_position_and_by_name(self):
        for turn in small_turns(3) + GREAT_TURNS[:3]:
            for order in ORDERS:
                for pixel in [(0, 0), (3, -2), GREAT_PIXELS[5]]:
                    for function in (sheared, unsheared, shear_miss):
                        called(function, turn, order, pixel)

    def test_halves(self):
        # -q * y / p is a half for p = 2 and an odd y: r is the greater integer.
        found = [sheared((2, 1, 0), "xyx", (0, y)) for y in range(-3, 4)]
        self.assertEqual(found, [(3, -1), (2, -1), (1, 0), (0, 0), (0, 1), (-1, 1), (-2, 2)])
        self.assertEqual([sheared((2, 1, 0), order, (1, 0)) for order in ORDERS], [(1, 1), (0, 1)])
        self.assertEqual([sheared((2, 1, 0), order, (0, 1)) for order in ORDERS], [(0, 1), (-1, 1)])
        self.assertEqual([sheared((2, -1, 0), order, (0, 1)) for order in ORDERS], [(1, 0), (1, 1)])

    def test_quarters(self):
        for quarters, expected in enumerate([(5, 7), (-7, 5), (-5, -7), (7, -5)]):
            for order in ORDERS:
                turn = (1, 0, quarters)
                self.assertEqual(sheared(turn, order, (5, 7)), expected)
                self.assertEqual(unsheared(turn, order, expected), (5, 7))
                self.assertEqual((shear_miss(turn, order, (5, 7)), shear_tally(turn, order)), ((0, 1), (1, (0, 1))))

    def test_wrong_arguments(self):
        for function in (shear_chain, sheared, unsheared, shear_miss, shear_bound, shear_tally):
            check_wrong(function)


class Bound(unittest.TestCase):
    def test_the_formula(self):
        for turn in small_turns(9) + MIDDLE_TURNS + GREAT_TURNS:
            p, q, _ = turn
            c, a, b = p * p + q * q, p * p - q * q, 2 * p * q
            expected = ((Fraction(abs(a), c) + Fraction(abs(q), p) + 1) / 2) ** 2 + ((Fraction(abs(b), c) + 1) / 2) ** 2
            self.assertEqual(as_fraction(called(shear_bound, turn)), expected, turn)
        self.assertEqual([shear_bound((2, 1, 0)), shear_bound((1, 0, 2))], [(153, 80), (5, 4)])


class Tally(unittest.TestCase):
    def check(self, turn, order):
        number, greatest = called(shear_tally, turn, order)
        expected = tally_by_walking(turn, order)
        self.assertEqual((number, as_fraction(greatest)), expected, (turn, order))
        self.assertLessEqual(expected[1], as_fraction(shear_bound(turn)))

    def test_all_small_turns(self):
        for turn in small_turns(5):
            for order in ORDERS:
                self.check(turn, order)
        for p, q, _ in small_turns(12, [0]):
            if p > 5:
                for order in ORDERS:
                    self.check((p, q, (p + q) // 2 % 4), order)

    def test_some_greater_turns(self):
        for turn in [(27, 2, 1), (26, -5, 0), (19, 18, 2), (22, 13, 3), (20, -17, 0), (25, 12, 1)]:
            for order in ORDERS:
                self.check(turn, order)

    def test_it_tells_of_pixels_themselves(self):
        for turn in small_turns(4):
            for order in ORDERS:
                pixels = rectangle(turn, order)
                misses = [as_fraction(shear_miss(turn, order, pixel)) for pixel in pixels]
                near = [sheared(turn, order, pixel) == plain_image(turn, pixel) for pixel in pixels]
                number, greatest = shear_tally(turn, order)
                self.assertEqual((number, as_fraction(greatest)), (sum(near), max(misses)))

    def test_no_pixel_has_a_greater_miss(self):
        for turn in small_turns(7, [0, 1]):
            for order in ORDERS:
                greatest = as_fraction(shear_tally(turn, order)[1])
                for pixel in small_pixels(3) + GREAT_PIXELS:
                    self.assertLessEqual(as_fraction(shear_miss(turn, order, pixel)), greatest)

    def test_too_large_just_above_the_limit(self):
        seen = []
        for p, q, _ in small_turns(40, [0]):
            size = (p * p + q * q) * p
            for order in ORDERS:
                if size > 20000:
                    found = raised_by(shear_tally, turn=(p, q, 1), order=order)
                    self.assertEqual((type(found), found.limit), (TooLarge, 20000))
                else:
                    seen.append(size)
                    self.assertLessEqual(shear_tally((p, q, 0), order)[0], size)
        self.assertEqual((max(seen), len(seen)), (19791, 506))

    def test_too_large_comes_last(self):
        for turn in [(41, 18, 0), (LIMIT, 1, 2)]:
            self.assertEqual(type(raised_by(shear_tally, turn, "xyz")), InvalidOrder)
            self.assertEqual(raised_by(shear_tally, turn, "yxy").limit, 20000)
        self.assertEqual(type(raised_by(shear_tally, (LIMIT + 1, 1, 0), None)), InvalidTurn)
        self.assertEqual(type(raised_by(sheared, (LIMIT, 1, 0), "xyx", None)), InvalidPixel)


if __name__ == "__main__":
    unittest.main()
