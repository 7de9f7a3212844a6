"""[10] and [23], against a search pixel by pixel."""

import random
import unittest

from tests.samples import (
    ANY_VALUES, GREAT_PIXELS, GREAT_TURNS, NO_PICTURES, NO_PIXELS, PICTURE, WAY, called, check_wrong, drawn_turns,
    plain_back, plain_image, raised_by, small_pixels, small_turns, sources_by_search,
)
from turnedpixels.errors import InvalidOrder, InvalidPixels, InvalidTurn, InvalidWay
from turnedpixels.pictures import (
    gaps_in, is_picture, lost_number, meetings_in, sheared_picture, there_and_back, turned_picture, walked_picture,
)
from turnedpixels.shears import sheared
from turnedpixels.ways import walked, way_for

ORDERS = ("xyx", "yxy")
FAR = (10 ** 43 + 7, -3 * 10 ** 43)


def scattered(number, reach, first=(0, 0)):
    """So many pixels of a square by a fixed row of numbers, ascending."""
    chance = random.Random(number * reach)
    found = {}
    while len(found) < number:
        found[(first[0] + chance.randint(-reach, reach), first[1] + chance.randint(-reach, reach))] = True
    return sorted(found)


def block(wide, high, first=(0, 0)):
    return [(first[0] + x, first[1] + y) for x in range(wide) for y in range(high)]


PICTURES = [
    [], [(0, 0)], [(-5, 7)], PICTURE, block(7, 7), block(20, 20), block(400, 1), block(1, 400), block(9, 9, FAR),
    block(60, 1, FAR), scattered(50, 6), scattered(400, 12), scattered(400, 10 ** 6), scattered(60, 5, FAR),
    sorted(GREAT_PIXELS), [GREAT_PIXELS[2]], block(3, 2, (-2, -1)),
]
TURNS = small_turns(5, [0, 3]) + [(4, 1, 1), (4, -1, 2), (9, 4, 2), (12, -5, 0), (29, 12, 1)] + GREAT_TURNS[:4]


class WhetherValues(unittest.TestCase):
    def test_pictures(self):
        for value in PICTURES:
            self.assertIs(called(is_picture, value), True)
        for value, _ in NO_PICTURES:
            self.assertIs(called(is_picture, value), False, value)

    def test_each_item_counts(self):
        for wrong in NO_PIXELS:
            for at in (0, 1, 17, 399):
                value = [(x, 0) for x in range(at)] + [wrong] + [(x, 0) for x in range(at + 1, 400)]
                self.assertIs(is_picture(value), False)

    def test_any_value(self):
        for value in ANY_VALUES:
            self.assertIs(is_picture(value), value == [] or value == [(1, 2)])

    def test_only_ascending_ones(self):
        for first in small_pixels(2):
            for second in small_pixels(2):
                self.assertIs(is_picture([first, second]), first < second)


class Turned(unittest.TestCase):
    def check(self, turn, pixels):
        images = [plain_image(turn, pixel) for pixel in pixels]
        self.assertEqual(called(turned_picture, turn, pixels), sorted(set(images)))
        self.assertEqual(called(lost_number, turn, pixels), len(pixels) - len(set(images)))
        pairs = [(one, other) for one in pixels for other in [(one[0], one[1] + 1), (one[0] + 1, one[1])]
                 if other in set(pixels) and plain_image(turn, one) == plain_image(turn, other)]
        self.assertEqual(called(meetings_in, turn, pixels), sorted(pairs))
        self.assertEqual(len(pairs), lost_number(turn, pixels))
        again = {plain_image(plain_back(turn), place) for place in images}
        self.assertEqual(called(there_and_back, turn, pixels), sorted(again))

    def test_pictures(self):
        for turn in TURNS:
            for pixels in PICTURES:
                self.check(turn, pixels)

    def test_more_turns(self):
        for turn in small_turns(9) + drawn_turns(30, 10, 10 ** 9):
            for pixels in (block(6, 6, (-3, -2)), scattered(50, 6)):
                self.check(turn, pixels)

    def test_turned_pictures_are_pictures(self):
        for turn in TURNS[:20]:
            for pixels in PICTURES:
                found = turned_picture(turn, pixels)
                self.assertIs(is_picture(found), True)
                self.assertIs(is_picture(there_and_back(turn, found)), True)

    def test_pairs_are_compared_one_by_one(self):
        for turn in small_turns(5, [1]):
            for pixels in (block(5, 5), scattered(12, 3)):
                images = {pixel: plain_image(turn, pixel) for pixel in pixels}
                pairs = [(one, other) for one in pixels for other in pixels if one < other and images[one] == images[other]]
                self.assertEqual(meetings_in(turn, pixels), pairs)

    def test_what_does_not_come_back_may_become_another_pixel(self):
        self.assertEqual(there_and_back((4, 1, 0), [(5, 0)]), [(4, 0)])
        # Each of these two is an image; the first one comes to a pixel that is led elsewhere.
        found = [(turn, pixels) for turn in small_turns(6, [0]) for pixels in [block(5, 5)]
                 if len(there_and_back(turn, pixels)) < len(turned_picture(turn, pixels))]
        self.assertGreater(len(found), 0)

    def test_each_list_is_new(self):
        pixels = [(0, 0)]
        found = turned_picture((1, 0, 0), pixels)
        found.append("more")
        self.assertEqual((pixels, turned_picture((1, 0, 0), pixels)), ([(0, 0)], [(0, 0)]))


class Gaps(unittest.TestCase):
    def check(self, turn, pixels):
        places = {plain_image(turn, pixel) for pixel in pixels}
        around = {(x + i, y + j) for x, y in places for i, j in [(1, 0), (-1, 0), (0, 1), (0, -1)]}
        expected = [(x, y) for x, y in sorted(around)
                    if {(x + 1, y), (x - 1, y), (x, y + 1), (x, y - 1)} <= places and not sources_by_search(turn, (x, y))]
        self.assertEqual(called(gaps_in, turn, pixels), expected, turn)
        return len(expected)

    def test_pictures(self):
        seen = 0
        for turn in TURNS:
            for pixels in PICTURES:
                seen += self.check(turn, pixels)
        self.assertGreater(seen, 100)

    def test_more_turns(self):
        for turn in small_turns(9, [0, 1]) + drawn_turns(20, 10, 99):
            self.check(turn, block(12, 12, (-6, -5)))

    def test_a_place_that_is_not_bare_is_no_gap(self):
        # Without the pixel in the middle its image is missed, but it is not bare.
        pixels = [pixel for pixel in block(5, 5, (-2, -2)) if pixel != (0, 0)]
        for turn in [(1, 0, 0), (2, 1, 1), (4, 1, 0)]:
            self.check(turn, pixels)
            self.assertNotIn((0, 0), gaps_in(turn, pixels))

    def test_all_four_neighbours_count(self):
        turn = (4, 1, 0)
        pixels = block(20, 20)
        gaps = gaps_in(turn, pixels)
        self.assertGreater(len(gaps), 3)
        for x, y in gaps[:4]:
            for place in [(x + 1, y), (x - 1, y), (x, y + 1), (x, y - 1)]:
                fewer = [pixel for pixel in pixels if plain_image(turn, pixel) != place]
                self.assertNotIn((x, y), gaps_in(turn, fewer))
                self.check(turn, fewer)


class ShearedAndWalked(unittest.TestCase):
    def test_sheared(self):
        for turn in TURNS:
            for order in ORDERS:
                for pixels in PICTURES:
                    expected = sorted(sheared(turn, order, pixel) for pixel in pixels)
                    self.assertEqual(called(sheared_picture, turn, order, pixels), expected)
                    self.assertEqual(len(set(expected)), len(pixels))

    def test_walked(self):
        for way in [[], [(1, 0, 3)], WAY, [(2, 1, 0)] * 5, way_for((99, 2, 1)), way_for((99991, 1340, 2))]:
            for pixels in PICTURES:
                expected = sorted(walked(way, pixel) for pixel in pixels)
                self.assertEqual(called(walked_picture, way, pixels), expected)
                self.assertIs(is_picture(expected), True)


class Errors(unittest.TestCase):
    def test_each_function(self):
        for function in (turned_picture, lost_number, meetings_in, gaps_in, there_and_back, sheared_picture,
                         walked_picture):
            check_wrong(function)

    def test_the_order_of_the_errors(self):
        self.assertEqual(type(raised_by(sheared_picture, None, None, None)), InvalidTurn)
        self.assertEqual(type(raised_by(sheared_picture, (4, 1, 0), None, None)), InvalidOrder)
        self.assertEqual(type(raised_by(sheared_picture, (4, 1, 0), "yxy", None)), InvalidPixels)
        self.assertEqual(type(raised_by(walked_picture, [None], None)), InvalidWay)

    def test_the_number_of_pixels(self):
        for many, index in [(400, 0), (401, None)]:
            for item in (None, (0, 0)):
                found = raised_by(lost_number, (4, 1, 0), [item] * many)
                self.assertEqual(found.index, 1 if item and many == 400 else index)


if __name__ == "__main__":
    unittest.main()
