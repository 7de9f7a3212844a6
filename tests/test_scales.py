"""[21], against counts pixel by pixel and a search."""

import random
import unittest
from math import gcd

from tests.samples import (
    GREAT_KEEPING, GREAT_NARROW, GREAT_PIXELS, GREAT_TURNS, NO_PIXELS, called, check_wrong, drawn_turns, raised_by,
    small_pixels, small_turns,
)
from turnedpixels.errors import InvalidPixel, InvalidScale
from turnedpixels.losses import keeps_all, twice_number
from turnedpixels.scales import class_number, enlarged, meeting_numbers, one_to_one, onto, sources_of
from turnedpixels.turns import legs_of

TOP = 10 ** 30
GREAT_SCALES = [
    (TOP, 0, TOP), (0, -TOP, TOP), (TOP, 1, TOP), (1, TOP, TOP), (-TOP, TOP, 1), (TOP, -TOP, TOP), (TOP, TOP, TOP - 1),
    (3 * 10 ** 29, 4 * 10 ** 29, 5 * 10 ** 29), (-6 * 10 ** 29, 8 * 10 ** 29, TOP), (TOP - 7, 11 - TOP, TOP),
    (707106781186547524400844362105, 707106781186547524400844362105, TOP),
    (-909090909090909090909090909091, 416597790450530914543041600733, TOP - 1),
    (10 ** 15, 10 ** 15 - 1, 10 ** 15 + 1), (5 * 10 ** 29, 5 * 10 ** 29, 6 * 10 ** 29),
]


def small_scales(greatest, part):
    """All scales with n to greatest, and a and b from -part to part."""
    return [(a, b, n) for n in range(1, greatest + 1) for a in range(-part, part + 1) for b in range(-part, part + 1)
            if a * a + b * b >= n * n]


def led_by_definition(scale, pixel):
    a, b, n = scale
    x, y = pixel
    # r(k, n) of the document, the greatest integer that is not above k / n + 1 / 2.
    return ((2 * (a * x - b * y) + n) // (2 * n), (2 * (b * x + a * y) + n) // (2 * n))


def counted(scale):
    """The number of classes, and of those that meet the next one in x, and in y, by a walk through n by n pixels."""
    a, b, n = scale
    classes = {}
    for x in range(n):
        for y in range(n):
            place = led_by_definition(scale, (x, y))
            found = (place == led_by_definition(scale, (x + 1, y)), place == led_by_definition(scale, (x, y + 1)))
            kind = ((a * x - b * y) % n, (b * x + a * y) % n)
            assert classes.setdefault(kind, found) == found
    return (len(classes), sum(right for right, _ in classes.values()), sum(up for _, up in classes.values()))


def sources_by_search(scale, pixel):
    """All pixels that are led to a pixel, near the place that is led to it without rounding."""
    a, b, n = scale
    size, x, y = a * a + b * b, pixel[0], pixel[1]
    r, s = n * (a * x + b * y) // size, n * (a * y - b * x) // size
    return [(r + i, s + j) for i, j in small_pixels(2) if led_by_definition(scale, (r + i, s + j)) == pixel]


def number_in(least, greatest, rest, modulus):
    """How many numbers from least to greatest are a rest, modulo a modulus."""
    return max(0, (greatest - rest) // modulus - (least - 1 - rest) // modulus)


def meetings_by_rests(scale, size):
    """Both numbers of meetings, if a + b i and n have no integer as common divisor, by the rests modulo their size."""
    a, b, n = scale
    assert gcd(gcd(a, b), n) == 1
    low, high, found = -(n // 2), (n - 1) // 2, []
    for right, up in [(a, b), (-b, a)]:
        wide = (max(low, low - right), min(high, high - right))
        tall = (max(low, low - up), min(high, high - up))
        # The multiples of a + b i and n are those (x, y) that go through all multiples of (a, b) modulo size.
        found.append(sum(number_in(*wide, a * k, size) * number_in(*tall, b * k, size) for k in range(size)))
    return tuple(found)


class Enlarged(unittest.TestCase):
    def test_small_scales(self):
        for scale in small_scales(6, 7):
            for pixel in small_pixels(3):
                self.assertEqual(enlarged(scale, pixel), led_by_definition(scale, pixel), (scale, pixel))

    def test_great_ones(self):
        for scale in GREAT_SCALES + small_scales(2, 3):
            for pixel in GREAT_PIXELS + [(0, 0), (1, -1)]:
                self.assertEqual(called(enlarged, scale, pixel), led_by_definition(scale, pixel), (scale, pixel))

    def test_halves_and_negative_parts(self):
        self.assertEqual([enlarged((3, 0, 2), (x, -x)) for x in range(-3, 4)],
                         [(-4, 5), (-3, 3), (-1, 2), (0, 0), (2, -1), (3, -3), (5, -4)])
        self.assertEqual([enlarged((-3, 0, 2), (x, 0)) for x in (-1, 1)], [(2, 0), (-1, 0)])
        self.assertEqual([enlarged((0, 3, 2), (x, 0)) for x in (-1, 1)], [(0, -1), (0, 2)])
        self.assertEqual(enlarged((TOP - 1, TOP - 1, TOP), (1, 0)), (1, 1))
        self.assertEqual(enlarged((1, 0, 1), GREAT_PIXELS[2]), GREAT_PIXELS[2])


class Numbers(unittest.TestCase):
    def check(self, scale):
        classes, right, up = counted(scale)
        self.assertEqual(called(class_number, scale), classes, scale)
        self.assertEqual(called(meeting_numbers, scale), (right, up), scale)
        self.assertIs(called(one_to_one, scale), right == up == 0, scale)
        a, b, n = scale
        self.assertIs(called(onto, scale), right == up == 0 and a * a + b * b == n * n, scale)

    def test_small_scales(self):
        for scale in small_scales(6, 7):
            self.check(scale)

    def test_greater_scales(self):
        chance = random.Random(21)
        seen = []
        while len(seen) < 250:
            n = chance.randint(7, 30)
            scale = (chance.randint(-n - 2, n + 2), chance.randint(-n - 2, n + 2), n)
            if scale[0] ** 2 + scale[1] ** 2 >= n * n:
                self.check(scale)
                seen.append((one_to_one(scale), gcd(gcd(scale[0], scale[1]), n) > 1))
        self.assertEqual(len(set(seen)), 4)

    def test_legs_of_turns(self):
        for turn in small_turns(5) + small_turns(8, [1]):
            self.check(legs_of(turn))

    def test_each_pixel_is_reached_or_not(self):
        for scale in small_scales(5, 6):
            a, b, n = scale
            hit = [sources_by_search(scale, (x, y)) for x in range(a * a + b * b) for y in range(min(n, 3))]
            if onto(scale):
                self.assertEqual({len(found) for found in hit}, {1})
            elif one_to_one(scale):
                self.assertIn([], hit)

    def test_great_scales_of_turns(self):
        # The legs of a turn have c classes, and half of the pairs that meet stand in x.
        seen = 0
        for turn in (GREAT_TURNS + GREAT_NARROW + GREAT_KEEPING + small_turns(40, [2])
                     + drawn_turns(100, 10 ** 5, 10 ** 9) + drawn_turns(100, 10 ** 14, 7 * 10 ** 14)):
            legs = legs_of(turn)
            if legs[2] <= TOP:
                seen += turn[0] > 1000
                half = twice_number(turn) // 2
                self.assertEqual((class_number(legs), meeting_numbers(legs)), (legs[2], (half, half)), turn)
                self.assertEqual((one_to_one(legs), onto(legs)), (keeps_all(turn), keeps_all(turn)))
        self.assertGreater(seen, 200)

    def test_great_multiples_of_small_scales(self):
        for scale in small_scales(5, 5):
            for factor in (2, 10 ** 29, 123456789 ** 3, 2 * 10 ** 29):
                great = tuple(part * factor for part in scale)
                if max(map(abs, great)) <= TOP:
                    for function in (class_number, meeting_numbers, one_to_one, onto):
                        self.assertEqual(function(great), function(scale), great)

    def test_great_scales_of_which_all_rests_occur(self):
        # Without a common divisor of a + b i and n each class is a tuple of two numbers from 0 to n - 1.
        seen = 0
        for a, b, n in [(TOP - 1, TOP - 2, TOP), (8 * 10 ** 29 + 1, 7 * 10 ** 29, TOP - 1), (-TOP + 3, 10 ** 20, TOP - 3),
                        (TOP - 1, 3, TOP - 2), (5, 1 - TOP, TOP - 1), (TOP, TOP - 1, TOP - 3), (2, -TOP, 7 * 10 ** 29 + 9)]:
            if gcd(n, a * a + b * b) == 1:
                seen += 1
                right = max(0, n - abs(a)) * max(0, n - abs(b))
                self.assertEqual((class_number((a, b, n)), meeting_numbers((a, b, n))), (n * n, (right, right)))
        self.assertGreaterEqual(seen, 4)

    def test_great_scales_of_a_small_common_size(self):
        chance, seen = random.Random(2121), {}
        while len(seen) < 6:
            n = chance.randint(6 * 10 ** 29, TOP)
            a, b = chance.randint(-n, n), chance.randint(-n, n)
            size = gcd(n, a * a + b * b)
            if a * a + b * b >= n * n and gcd(gcd(a, b), n) == 1 and size < 90 and seen.get(size, 0) < 9:
                seen[size] = seen.get(size, 0) + 1
                self.assertEqual(class_number((a, b, n)), n * n // size)
                found, expected = meeting_numbers((a, b, n)), meetings_by_rests((a, b, n), size)
                self.assertEqual(found, expected, (a, b, n))
                self.assertIs(one_to_one((a, b, n)), expected == (0, 0))
                self.assertIs(onto((a, b, n)), False)

    def test_the_helper_of_this_file(self):
        for scale in small_scales(7, 8):
            a, b, n = scale
            if gcd(gcd(a, b), n) == 1:
                size = gcd(n, a * a + b * b)
                self.assertEqual((n * n // size, *meetings_by_rests(scale, size)), counted(scale), scale)

    def test_onto_by_legs(self):
        for k in (1, 7, 10 ** 13, 10 ** 14 - 1):
            a, b, n = 2 * k + 1, 2 * k * (k + 1), 2 * k * (k + 1) + 1
            self.assertEqual(a * a + b * b, n * n)
            for scale in [(a, b, n), (b, -a, n), (-a, -b, n), (3 * a, 3 * b, 3 * n)]:
                self.assertEqual((onto(scale), one_to_one(scale), class_number(scale)), (True, True, n), scale)
        # (4, 1, 0) does not keep all; one_to_one but longer.
        self.assertEqual([onto((15, 8, 17)), one_to_one((15, 8, 17)), onto((2, 0, 1)), one_to_one((2, 0, 1))],
                         [False, False, False, True])


class Sources(unittest.TestCase):
    def check(self, scale, pixel):
        found = called(sources_of, scale, pixel)
        self.assertEqual(found, sources_by_search(scale, pixel), (scale, pixel))
        return len(found)

    def test_small_scales(self):
        seen = []
        for scale in small_scales(6, 7):
            numbers = [self.check(scale, pixel) for pixel in small_pixels(2) + [(5, -9), (13, 7)]]
            seen.append((min(numbers), max(numbers)))
            self.assertTrue(max(numbers) < 2 or not one_to_one(scale))
        self.assertEqual({least for least, _ in seen} | {greatest for _, greatest in seen}, {0, 1, 2})

    def test_great_ones(self):
        for scale in GREAT_SCALES + [(5, 5, 6), (15, 8, 17), (3, 1, 2)]:
            for pixel in GREAT_PIXELS + [(0, 0), (1, -1), (3, 3)]:
                self.check(scale, pixel)
                self.assertIn(pixel, sources_of(scale, enlarged(scale, pixel)))

    def test_against_all_pixels_around(self):
        for scale in [(5, 5, 6), (7, 1, 7), (-4, 5, 6), (1, 1, 1), (15, 8, 17), (0, -3, 2), (6, 0, 5)]:
            table = {}
            for pixel in small_pixels(30):
                table.setdefault(led_by_definition(scale, pixel), []).append(pixel)
            for pixel in small_pixels(8):
                self.assertEqual(sources_of(scale, pixel), table.get(pixel, []))

    def test_two_that_meet_are_neighbours_as_told(self):
        for scale in small_scales(6, 7):
            pairs = [sources_of(scale, pixel) for pixel in small_pixels(9)]
            away = {(found[1][0] - found[0][0], found[1][1] - found[0][1]) for found in pairs if len(found) == 2}
            right, up = meeting_numbers(scale)
            self.assertEqual(((1, 0) in away, (0, 1) in away), (right > 0, up > 0), scale)
            self.assertTrue(len(away - {(1, 0), (0, 1)}) == 0 and max(map(len, pairs)) <= 2)


class Errors(unittest.TestCase):
    def test_each_function(self):
        for function in (enlarged, class_number, meeting_numbers, one_to_one, onto, sources_of):
            check_wrong(function)

    def test_just_at_the_edges(self):
        for scale in GREAT_SCALES + [(1, 0, 1), (0, -1, 1), (3, 4, 5), (-TOP, -TOP, 1), (4, 3, 5)]:
            self.assertGreater(class_number(scale), 0)
        for scale in [(3, 4, 6), (-4, 4, 6), (TOP, 0, TOP + 1), (1, 1, 0), (TOP + 1, TOP, TOP), (6, 8, 11)]:
            for function in (class_number, one_to_one):
                self.assertEqual(type(raised_by(function, scale)), InvalidScale)
            self.assertEqual(type(raised_by(enlarged, scale, None)), InvalidScale)
        for pixel in NO_PIXELS:
            self.assertEqual(type(raised_by(sources_of, (3, 1, 2), pixel)), InvalidPixel)


if __name__ == "__main__":
    unittest.main()
