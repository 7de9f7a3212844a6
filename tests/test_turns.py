"""[12], and the definitions of [4] and the conventions of [2] and [3] that it rests on."""

import copy
import unittest
from math import gcd, isqrt

from tests.samples import (
    ANY_VALUES, GREAT_PIXELS, GREAT_TURNS, HUGE, LIMIT, NO_PIXELS, WRONG_TURNS, complex_product, factor_of,
    fraction_place, rounded, small_pixels, small_turns, wrong_calls,
)
from turnedpixels.errors import InvalidLegs, InvalidPixel, InvalidTurn, TooLarge
from turnedpixels.turns import back, exact_place, image, is_pixel, is_turn, joined, legs_of, turn_of

NO_LEGS = ANY_VALUES + [
    (0, 0), (0, 0, 0), (3, 4, -5), (-3, -4, -5), (1, 0, -1), (0, 1, -1), (3, 4, 6), (3, 4, 4), (1, 1, 1), (1, 1, 2),
    (0, 0, 1), (5, 4, 3), (HUGE, HUGE, HUGE), (HUGE, 0, HUGE + 1), (HUGE, 0, -HUGE), (2, 1, 0),
]


def primitive_legs(turn):
    """Legs by the definition: the fractions over their least common denominator."""
    real, imaginary = factor_of(turn)
    c = real.denominator * imaginary.denominator // gcd(real.denominator, imaginary.denominator)
    return (int(real * c), int(imaginary * c), c)


def all_legs(greatest):
    """All legs with c at most greatest."""
    found = []
    for c in range(1, greatest + 1):
        for a in range(-c, c + 1):
            b = isqrt(c * c - a * a)
            if a * a + b * b == c * c:
                found += [(a, b, c)] if b == 0 else [(a, b, c), (a, -b, c)]
    return found


class WhetherValues(unittest.TestCase):
    def test_pixels(self):
        for value in small_pixels(2) + GREAT_PIXELS + [(5, 0), (0, -5)]:
            self.assertIs(is_pixel(value), True, value)
        for value in NO_PIXELS:
            self.assertIs(is_pixel(value), False, value)

    def test_turns(self):
        for value in small_turns(12) + GREAT_TURNS:
            self.assertIs(is_turn(value), True, value)
        for value in WRONG_TURNS:
            self.assertIs(is_turn(value), False, value)

    def test_every_small_tuple_by_the_definition(self):
        turns = {turn: True for turn in small_turns(9)}
        for p in range(-3, 10):
            for q in range(-11, 12):
                for quarters in range(-2, 6):
                    value = (p, q, quarters)
                    self.assertIs(is_turn(value), value in turns, value)

    def test_edges_of_p(self):
        self.assertEqual([is_turn((1, q, 0)) for q in (-1, 0, 1)], [False, True, False])
        self.assertTrue(is_turn((LIMIT, 1, 0)) and is_turn((LIMIT, 1 - LIMIT, 0)) and is_turn((LIMIT, LIMIT - 1, 3)))
        self.assertFalse(is_turn((LIMIT + 1, 2, 0)) or is_turn((LIMIT + 1, LIMIT, 0)))

    def test_by_name(self):
        self.assertEqual([is_pixel(value=(1, 2)), is_turn(value=(2, 1, 3)), is_turn(value=None)], [True, True, False])


class Legs(unittest.TestCase):
    def test_legs_by_the_definition(self):
        for turn in small_turns(14) + GREAT_TURNS:
            self.assertEqual(legs_of(turn), primitive_legs(turn), turn)

    def test_quarters(self):
        self.assertEqual([legs_of((1, 0, k)) for k in range(4)], [(1, 0, 1), (0, 1, 1), (-1, 0, 1), (0, -1, 1)])
        self.assertEqual([legs_of((2, 1, k)) for k in range(4)], [(3, 4, 5), (-4, 3, 5), (-3, -4, 5), (4, -3, 5)])
        self.assertEqual([legs_of((2, -1, k)) for k in range(4)], [(3, -4, 5), (4, 3, 5), (-3, 4, 5), (-4, -3, 5)])

    def test_turn_of_is_the_way_back(self):
        for turn in small_turns(14) + GREAT_TURNS:
            a, b, c = legs_of(turn)
            for common in (1, 2, 3, 4, 5, 30, 10 ** 14 + 1, HUGE):
                self.assertEqual(turn_of((a * common, b * common, c * common)), turn, (turn, common))

    def test_all_legs_tell_a_turn(self):
        for a, b, c in all_legs(130):
            turn = turn_of((a, b, c))
            self.assertTrue(is_turn(turn), turn)
            real, imaginary = factor_of(turn)
            self.assertEqual((real * c, imaginary * c), (a, b))

    def test_every_turn_is_there_just_once(self):
        legs = {legs_of(turn) for turn in small_turns(12)}
        self.assertEqual(len(legs), len(small_turns(12)))

    def test_legs_of_one_axis(self):
        for c in (1, 2, 7, 10 ** 45 - 1, HUGE):
            found = [turn_of((c, 0, c)), turn_of((0, c, c)), turn_of((-c, 0, c)), turn_of((0, -c, c))]
            self.assertEqual(found, [(1, 0, 0), (1, 0, 1), (1, 0, 2), (1, 0, 3)])

    def test_turn_of_is_too_large_just_above_the_limit(self):
        above = [(LIMIT + 1, LIMIT), (LIMIT + 1, -LIMIT), (LIMIT + 1, 2), (LIMIT + 1, -2), (LIMIT + 2, 1)]
        for p, q in above + [(LIMIT * LIMIT, 1), (10 ** 22, 10 ** 22 - 1)]:
            a, b = complex_product((p, q), (p, q))
            c = p * p + q * q
            for legs in [(a, b, c), (-b, a, c), (-a, -b, c), (b, -a, c), (3 * a, 3 * b, 3 * c)]:
                with self.assertRaises(TooLarge) as caught:
                    turn_of(legs)
                self.assertEqual(caught.exception.limit, LIMIT)

    def test_turn_of_answers_just_at_the_limit(self):
        for p, q in [(LIMIT, LIMIT - 1), (LIMIT, 1 - LIMIT), (LIMIT, 1), (LIMIT, -3), (LIMIT - 1, 2)]:
            a, b = complex_product((p, q), (p, q))
            c = p * p + q * q
            found = [turn_of((a, b, c)), turn_of((-b, a, c)), turn_of((-a, -b, c)), turn_of((7 * b, -7 * a, 7 * c))]
            self.assertEqual(found, [(p, q, 0), (p, q, 1), (p, q, 2), (p, q, 3)])

    def test_wrong_arguments(self):
        for value in WRONG_TURNS:
            self.assertRaises(InvalidTurn, legs_of, value)
        for value in NO_LEGS:
            self.assertRaises(InvalidLegs, turn_of, value)

    def test_by_name(self):
        self.assertEqual([legs_of(turn=(4, 1, 2)), turn_of(legs=(15, 8, 17))], [(-15, -8, 17), (4, 1, 0)])


class Places(unittest.TestCase):
    def check(self, turn, pixel):
        x, y, c = exact_place(turn, pixel)
        first, second = fraction_place(turn, pixel)
        self.assertEqual(c, turn[0] * turn[0] + turn[1] * turn[1])
        self.assertEqual((x, y), (first * c, second * c))
        self.assertEqual(image(turn, pixel), rounded((first, second)))

    def test_small(self):
        for turn in small_turns(6):
            for pixel in small_pixels(5):
                self.check(turn, pixel)

    def test_great(self):
        for turn in GREAT_TURNS + small_turns(3):
            for pixel in GREAT_PIXELS + [(0, 0), (1, 0), (-1, 1)]:
                self.check(turn, pixel)

    def test_places_are_not_reduced(self):
        self.assertEqual(exact_place((2, 1, 0), (0, 0)), (0, 0, 5))
        self.assertEqual(exact_place((2, 1, 0), (5, 0)), (15, 20, 5))
        self.assertEqual(exact_place((1, 0, 3), (5, 7)), (7, -5, 1))

    def test_quarter_turns_are_exact(self):
        found = [image((1, 0, quarters), (5, 7)) for quarters in range(4)]
        self.assertEqual(found, [(5, 7), (-7, 5), (-5, -7), (7, -5)])

    def test_rounding_next_to_a_half(self):
        # With x of this kind a * x / c lies by 1 / (2 * c) below a half, one step further as much above one.
        for turn in [(2, 1, 0), (4, 1, 0), (7, 2, 0), (LIMIT, 1, 0), (LIMIT, 1 - LIMIT, 0)]:
            a, b, c = legs_of(turn)
            step = pow(a, -1, c)
            x = step * ((c - 1) // 2) % c
            self.assertEqual((a * x % c, a * (x + step) % c), ((c - 1) // 2, (c + 1) // 2))
            self.assertEqual(image(turn, (x, 0))[0], a * x // c)
            self.assertEqual(image(turn, (x + step, 0))[0], a * (x + step) // c + 1)
            self.assertEqual(image(turn, (-x, 0))[0], -(a * x // c))
            self.assertEqual(image((turn[0], turn[1], 1), (x, 0))[1], a * x // c)

    def test_what_was_returned_can_be_passed_back(self):
        pixel = (10 ** 45 - 1, 1 - 10 ** 45)
        for turn in GREAT_TURNS:
            x, y, c = exact_place(turn, pixel)
            self.check(turn, (x, y))
            self.check(back(turn), image(turn, image(turn, (x * c, y * c))))

    def test_wrong_arguments(self):
        kinds = [InvalidTurn, InvalidPixel]
        for function in (exact_place, image):
            for at, arguments in wrong_calls([(2, 1, 0), (3, 4)], [WRONG_TURNS, NO_PIXELS]):
                self.assertRaises(kinds[at], function, *arguments)

    def test_by_name(self):
        self.assertEqual(exact_place(pixel=(4, 0), turn=(4, 1, 0)), (60, 32, 17))
        self.assertEqual(image(pixel=(4, 0), turn=(4, 1, 0)), (4, 2))

    def test_arguments_stay_as_they_are(self):
        for wrong in ([2, 1, 0], [[1], {"a": [2]}], {"a": [1, 2]}):
            before = copy.deepcopy(wrong)
            self.assertRaises(InvalidTurn, image, wrong, wrong)
            self.assertRaises(InvalidPixel, image, (2, 1, 0), wrong)
            self.assertRaises(InvalidLegs, turn_of, wrong)
            self.assertIs(is_turn(wrong), False)
            self.assertEqual(wrong, before)


class BackAndJoined(unittest.TestCase):
    def test_back_is_the_opposite_angle(self):
        for turn in small_turns(10) + GREAT_TURNS:
            self.assertTrue(is_turn(back(turn)), turn)
            self.assertEqual(complex_product(factor_of(turn), factor_of(back(turn))), (1, 0))
            self.assertEqual(back(back(turn)), turn)

    def test_back_of_each_quarter(self):
        self.assertEqual([back((2, 1, k)) for k in range(4)], [(2, -1, 0), (2, -1, 3), (2, -1, 2), (2, -1, 1)])
        self.assertEqual([back((1, 0, k)) for k in range(4)], [(1, 0, 0), (1, 0, 3), (1, 0, 2), (1, 0, 1)])

    def test_joined_is_the_sum_of_the_angles(self):
        for turn in small_turns(6):
            for other in small_turns(6):
                found = joined(turn, other)
                self.assertTrue(is_turn(found), found)
                self.assertEqual(factor_of(found), complex_product(factor_of(turn), factor_of(other)))

    def test_joined_with_the_back_turn(self):
        for turn in small_turns(5) + GREAT_TURNS:
            self.assertEqual([joined(turn, back(turn)), joined(back(turn), turn)], [(1, 0, 0)] * 2)

    def test_joined_with_a_quarter_turn(self):
        for p, q, quarters in GREAT_TURNS + small_turns(4):
            for more in range(4):
                expected = (p, q, (quarters + more) % 4)
                self.assertEqual(joined((p, q, quarters), (1, 0, more)), expected)
                self.assertEqual(joined((1, 0, more), (p, q, quarters)), expected)

    def split_turn(self, p, start):
        """The q from start on such that p + q i is a multiple of 4 + i, and the turn of the other factor."""
        for q in range(start, start + 1000):
            left = complex_product((p, q), (4, -1))
            if (p + q) % 2 == 1 and gcd(p, q) == 1 and left[0] % 17 == 0 == left[1] % 17:
                left = (left[0] // 17, left[1] // 17)
                a, b = complex_product(left, left)
                return q, turn_of((a, b, left[0] ** 2 + left[1] ** 2))

    def test_joined_just_at_the_limit(self):
        for start in (1, 10 ** 14, -(10 ** 14), LIMIT - 1000, 1 - LIMIT):
            q, part = self.split_turn(LIMIT, start)
            found = [joined(part, (4, 1, 0)), joined((4, 1, 0), part), joined((4, 1, 3), part)]
            self.assertEqual(found, [(LIMIT, q, 0), (LIMIT, q, 0), (LIMIT, q, 3)])

    def test_joined_just_above_the_limit(self):
        for p in (LIMIT + 1, LIMIT + 2):
            for start in (1, 10 ** 14, -(10 ** 14), LIMIT - 1000, 1 - LIMIT):
                q, part = self.split_turn(p, start)
                for arguments in [(part, (4, 1, 0)), ((4, 1, 0), part), ((4, 1, 3), part)]:
                    with self.assertRaises(TooLarge) as caught:
                        joined(*arguments)
                    self.assertEqual(caught.exception.limit, LIMIT)

    def test_joined_is_too_large(self):
        for turn in GREAT_TURNS:
            self.assertRaises(TooLarge, joined, turn, turn)
            if turn[0] >= LIMIT - 1 and (turn[0] ** 2 + turn[1] ** 2) % 13 != 0:
                self.assertRaises(TooLarge, joined, turn, (3, 2, 0))
                self.assertRaises(TooLarge, joined, (3, -2, 1), turn)

    def test_the_image_of_the_image_may_be_another_pixel(self):
        turn = (2, 1, 0)
        twice = joined(turn, turn)
        self.assertEqual(twice, (4, -3, 2))
        self.assertEqual([image(turn, image(turn, (2, 1))), image(twice, (2, 1))], [(-2, 1), (-2, 2)])

    def test_wrong_arguments(self):
        for value in WRONG_TURNS:
            self.assertRaises(InvalidTurn, back, value)
            self.assertRaises(InvalidTurn, joined, value, (2, 1, 0))
            self.assertRaises(InvalidTurn, joined, (2, 1, 0), value)
            self.assertRaises(InvalidTurn, joined, (LIMIT, 1, 0), value)
            self.assertRaises(InvalidTurn, joined, value, value)

    def test_by_name(self):
        self.assertEqual([back(turn=(2, 1, 1)), joined(other=(2, -1, 0), turn=(7, 6, 0))], [(2, -1, 3), (4, 1, 0)])


if __name__ == "__main__":
    unittest.main()
