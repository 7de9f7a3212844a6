"""[9] and [20], against angles as fractions and images one after the other."""

import unittest
from fractions import Fraction
from math import isqrt, lcm

from tests.samples import (
    GREAT_KEEPING, GREAT_PIXELS, GREAT_TURNS, LIMIT, NO_ITEMS, NO_WAYS, WAY, WRONG_TURNS, as_fraction, called,
    check_wrong, complex_product, drawn_turns, factor_of, plain_image, raised_by, small_pixels, small_turns,
)
from turnedpixels.errors import InvalidTurn, InvalidWay, TooLarge
from turnedpixels.turns import is_turn
from turnedpixels.ways import is_way, product, shows_way, walked, walked_back, way_bound, way_for, way_miss

KEEPING = [turn for turn in small_turns(30) if turn[0] == abs(turn[1]) + 1] + GREAT_KEEPING
TO_ONE_SIDE = [(k + 1, k, k % 4) for k in range(1, 121)]
SOME_WAYS = [
    [], [(1, 0, 0)], [(1, 0, 3)], [(1, 0, 2), (1, 0, 1)], [(2, 1, 0)], [(2, -1, 3)], WAY, WAY[::-1], WAY * 3,
    [(2, 1, 0)] * 5, [(2, 1, 1), (1, 0, 3), (2, -1, 0)], [(3, 2, 0), (3, -2, 0)], GREAT_KEEPING, KEEPING[:30],
    KEEPING[40:50], TO_ONE_SIDE[:7], TO_ONE_SIDE[50:57], [(4, 3, 2), (1, 0, 0), (7, -6, 1), (12, 11, 3)],
]
LONG_WAYS = [
    TO_ONE_SIDE, KEEPING[:120], KEEPING[-120:], [(LIMIT - at, LIMIT - at - 1, at % 4) for at in range(120)], [(2, 1, 0)] * 120,
    [(2, 1, 0), (2, -1, 1)] * 60,
]


def factor_along(way):
    """What the sum of the angles multiplies by, two fractions."""
    found = (Fraction(1), Fraction(0))
    for turn in way:
        found = complex_product(found, factor_of(turn))
    return found


def p_along(way):
    """The p of the turn by the sum of the angles."""
    real, imaginary = factor_along(way)
    c = lcm(real.denominator, imaginary.denominator)
    a, b = abs(int(real * c)), abs(int(imaginary * c))
    # p * p - q * q is odd.
    return isqrt((c + (a if a % 2 == 1 else b)) // 2)


def image_along(way, pixel):
    for turn in way:
        pixel = plain_image(turn, pixel)
    return pixel


class WhetherValues(unittest.TestCase):
    def test_ways(self):
        for value in SOME_WAYS + LONG_WAYS + [[turn] for turn in KEEPING]:
            self.assertIs(called(is_way, value), True, value)
        for value, _ in NO_WAYS:
            self.assertIs(called(is_way, value), False, value)

    def test_each_item_counts(self):
        for wrong in NO_ITEMS:
            for at in (0, 1, 4, 119):
                self.assertIs(is_way([(2, 1, 0)] * at + [wrong] + [(2, 1, 0)] * (119 - at)), False, (wrong, at))

    def test_all_small_turns_that_do_not_keep_all(self):
        for turn in small_turns(20):
            self.assertIs(is_way([turn]), turn[0] == abs(turn[1]) + 1)


class WayFor(unittest.TestCase):
    def check(self, turn):
        p, q, _ = turn
        way = called(way_for, turn)
        self.assertIs(is_way(way), True, (turn, way))
        self.assertEqual(factor_along(way), factor_of(turn), (turn, way))
        number = len([item for item in way if item[1] != 0])
        # At most log2 c.
        self.assertLessEqual(2 ** number, p * p + q * q, (turn, way))
        self.assertEqual(called(product, way), turn)
        self.assertIs(called(shows_way, turn, way), True)

    def test_all_small_turns(self):
        for turn in small_turns(9):
            self.check(turn)

    def test_greater_turns(self):
        for turn in small_turns(40, [0]) + drawn_turns(150, 10, 99) + drawn_turns(150, 100, 999):
            self.check(turn)

    def test_great_turns(self):
        for turn in drawn_turns(300, 1000, 10 ** 5, 10 ** 10):
            self.check(turn)

    def test_just_at_the_limit(self):
        for turn in [(99999, 446, 0), (99999, -446, 3), (70711, 70710, 1), (70711, -70706, 1), (99991, 1340, 2)]:
            self.check(turn)
        self.assertEqual(99999 ** 2 + 446 ** 2, 10 ** 10 - 1083)
        self.assertEqual(99999 ** 2 + 448 ** 2, 10 ** 10 + 705)

    def test_too_large(self):
        above = [(99999, 448, 0), (99999, -448, 1), (10 ** 5, 1, 0), (10 ** 5, -1, 3), (70712, 70711, 0), (10 ** 5, 99999, 2)]
        for turn in above + GREAT_TURNS + GREAT_KEEPING:
            for found in (raised_by(way_for, turn), raised_by(way_for, turn=turn)):
                self.assertEqual((type(found), found.limit), (TooLarge, 10 ** 10), turn)

    def test_quarter_turns(self):
        for quarters in range(4):
            way = way_for((1, 0, quarters))
            self.assertEqual((product(way), way_bound(way)), ((1, 0, quarters), (0, 1)))

    def test_each_list_is_new(self):
        for turn in [(4, 1, 0), (1, 0, 0), (1, 0, 2)]:
            kept = way_for(turn)
            way_for(turn).append((2, 1, 0))
            way_for(turn).clear()
            self.assertEqual(way_for(turn), kept)


class Products(unittest.TestCase):
    def check(self, way):
        """Whether the product is not too large, if it is right."""
        if p_along(way) > LIMIT:
            for found in (raised_by(product, way), raised_by(product, way=way)):
                self.assertEqual((type(found), found.limit), (TooLarge, LIMIT))
            return False
        found = called(product, way)
        self.assertEqual((is_turn(found), factor_of(found)), (True, factor_along(way)), way)
        return True

    def test_some_ways(self):
        found = [self.check(way) for way in SOME_WAYS + LONG_WAYS]
        self.assertGreater(min(found.count(True), found.count(False)), 3)

    def test_more_and_more_items(self):
        for item in [(2, 1, 0), (2, -1, 1), (3, 2, 0), (LIMIT // 10 ** 9, LIMIT // 10 ** 9 - 1, 2), (31622, 31621, 0)]:
            found = [self.check([item] * number) for number in range(60)]
            self.assertEqual(found, sorted(found, reverse=True))
            self.assertTrue(found[1] and not found[-1])

    def test_just_at_the_limit(self):
        # (k + 1 + k i) times 2 - i is 3 k + 2 + (k - 1) i, which is divided by 5 for some k.
        found = [self.check([(k + 1, k, 0), (2, -1, 0)]) for k in range(LIMIT // 3 - 9, LIMIT // 3 + 9)]
        self.assertEqual((found[:9], found[9:].count(True)), ([True] * 9, 2))
        self.assertEqual(product([(LIMIT // 3, LIMIT // 3 - 1, 0), (2, -1, 0)])[0], LIMIT - 2)
        self.assertIs(self.check([(LIMIT // 3 + 1, LIMIT // 3, 0), (2, -1, 0)]), False)
        self.assertIs(self.check([(LIMIT // 3 + 1, -(LIMIT // 3), 3), (2, 1, 2)]), False)

    def test_small_ones(self):
        self.assertEqual([product([]), product([(1, 0, 3), (1, 0, 2)]), product(WAY)], [(1, 0, 0), (1, 0, 1), (4, 1, 0)])
        for turn in KEEPING:
            self.assertEqual(product([turn]), turn)
            self.assertEqual(product([turn, (turn[0], -turn[1], 0)]), (1, 0, turn[2]))

    def test_what_is_too_great_between_does_not_count(self):
        way = GREAT_KEEPING + [(p, -q, 0) for p, q, _ in GREAT_KEEPING]
        quarters = sum(turn[2] for turn in GREAT_KEEPING) % 4
        self.assertEqual(product(way), (1, 0, quarters))
        self.assertEqual(product(way + WAY), (4, 1, quarters))
        self.assertEqual(product([(2, 1, 0)] * 60 + [(2, -1, 0)] * 58), product([(2, 1, 0)] * 2))
        self.assertEqual(product([(2, 1, 0), (2, -1, 1)] * 60), (1, 0, 0))


class ShowsWay(unittest.TestCase):
    def test_some_ways(self):
        turns = small_turns(7) + GREAT_TURNS
        for way in SOME_WAYS:
            factor = factor_along(way)
            for turn in turns:
                self.assertIs(shows_way(turn, way), factor_of(turn) == factor, (turn, way))
        self.assertIs(called(shows_way, (4, 1, 0), WAY), True)
        for turn in [(4, 1, 1), (4, -1, 0), (1, 4, 0), (8, 1, 0)]:
            if is_turn(turn):
                self.assertIs(called(shows_way, turn, WAY), False)

    def test_ways_with_a_great_sum(self):
        for way in LONG_WAYS[:1] + LONG_WAYS[3:5] + [[(LIMIT, LIMIT - 1, 0), (2, 1, 0)]]:
            for turn in [(4, 1, 0), (LIMIT, LIMIT - 1, 0), (1, 0, 0)]:
                self.assertIs(called(shows_way, turn, way), False)
        self.assertIs(shows_way((1, 0, 0), LONG_WAYS[5]), True)

    def test_any_value(self):
        for turn in [(4, 1, 0), (1, 0, 0), (2, 1, 3), GREAT_TURNS[0]]:
            for value, _ in NO_WAYS:
                self.assertIs(called(shows_way, turn, value), False, value)
        # Right angles, but no ways.
        self.assertIs(shows_way((4, 1, 0), [(4, 1, 0)]), False)
        self.assertIs(shows_way((4, 1, 0), tuple(WAY)), False)
        self.assertIs(shows_way((1, 0, 0), [(1, 0, 0)] * 120), True)
        self.assertIs(shows_way((1, 0, 0), [(1, 0, 0)] * 121), False)

    def test_the_turn_alone_is_checked(self):
        for turn in WRONG_TURNS:
            for value in (WAY, None):
                self.assertRaises(InvalidTurn, shows_way, turn, value)
                self.assertRaises(InvalidTurn, shows_way, value=value, turn=turn)


class Walking(unittest.TestCase):
    def check(self, way, pixel):
        found = called(walked, way, pixel)
        self.assertEqual(found, image_along(way, pixel), (way, pixel))
        self.assertEqual(called(walked_back, way, found), pixel)
        self.assertEqual(image_along(way, walked_back(way, pixel)), pixel)
        x, y = complex_product(factor_along(way), pixel)
        far = (found[0] - x) ** 2 + (found[1] - y) ** 2
        self.assertEqual(as_fraction(called(way_miss, way, pixel)), far)
        bound = as_fraction(way_bound(way))
        self.assertTrue(far < bound or far == bound == 0, (way, pixel))

    def test_some_ways(self):
        for way in SOME_WAYS:
            for pixel in small_pixels(2) + [(17, -31)] + GREAT_PIXELS:
                self.check(way, pixel)

    def test_long_ways(self):
        for way in LONG_WAYS:
            for pixel in [(0, 0), (1, -2)] + GREAT_PIXELS[:4]:
                self.check(way, pixel)

    def test_ways_for_turns(self):
        for turn in small_turns(6, [0, 3]) + drawn_turns(30, 1000, 10 ** 5, 10 ** 10):
            for pixel in [(1, 0), (-5, 8), GREAT_PIXELS[6]]:
                self.check(way_for(turn), pixel)

    def test_each_pixel_is_reached_once(self):
        for way in SOME_WAYS[4:]:
            self.assertEqual(len({walked(way, pixel) for pixel in small_pixels(5)}), 121)

    def test_the_empty_way(self):
        for pixel in GREAT_PIXELS + [(0, 0)]:
            self.assertEqual([walked([], pixel), walked_back([], pixel), way_miss([], pixel)], [pixel, pixel, (0, 1)])

    def test_arguments_stay_as_they_are(self):
        way = list(WAY)
        for function in (walked, walked_back, way_miss):
            function(way, (5, 7))
        self.assertEqual((way, product(way), way_bound(way), way), (WAY, (4, 1, 0), (2, 1), WAY))


class Bound(unittest.TestCase):
    def test_way_bound(self):
        for way in SOME_WAYS + LONG_WAYS:
            number = sum(turn[1] != 0 for turn in way)
            self.assertEqual(as_fraction(called(way_bound, way)), Fraction(number * number, 2))
        found = [way_bound(way) for way in ([], [(1, 0, 2)], [(2, 1, 0)], WAY, WAY + [(1, 0, 1)], [(3, -2, 1)] * 3)]
        self.assertEqual(found, [(0, 1), (0, 1), (1, 2), (2, 1), (2, 1), (9, 2)])


class Errors(unittest.TestCase):
    def test_each_function(self):
        for function in (way_for, product, walked, walked_back, way_miss, way_bound):
            check_wrong(function)

    def test_the_index_of_the_first_wrong_item(self):
        for way, index in [([(2, 1, 0), (4, 1, 0), None], 1), ([None] * 120, 0), ([None] * 121, None), (None, None)]:
            for function in (product, way_bound):
                self.assertEqual(raised_by(function, way).index, index)
            for function in (walked, walked_back, way_miss):
                self.assertEqual(raised_by(function, way, None).index, index)
                self.assertEqual(type(raised_by(function, way, None)), InvalidWay)


if __name__ == "__main__":
    unittest.main()
