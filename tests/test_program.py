"""What the document promises over several modules together: the facts of [5], [6], [8], [9], and one thing told twice."""

import unittest
from fractions import Fraction

from tests.samples import (
    GREAT_PIXELS, GREAT_TURNS, HUGE, LIMIT, as_fraction, complex_product, drawn_turns, factor_of, fraction_place, rounded,
    small_pixels, small_turns,
)
from turnedpixels.canvas import Canvas, CountingCanvas
from turnedpixels.chains import after_chain, before_chain, chain_for, fewest_shears, matrix_of, shows_chain
from turnedpixels.console import Console
from turnedpixels.losses import back_number, bare_share, keeping_number, keeps_all, kinds_of, twice_number
from turnedpixels.misses import greatest_miss, mean_miss, miss, miss_parts
from turnedpixels.pictures import gaps_in, lost_number, meetings_in, there_and_back, turned_picture, walked_picture
from turnedpixels.rests import all_rests, first_with, nearest_with, rest_of, same_rest
from turnedpixels.scales import class_number, enlarged, meeting_numbers, one_to_one, onto, sources_of
from turnedpixels.shears import shear_bound, shear_chain, shear_miss, shear_tally, sheared, unsheared
from turnedpixels.sixes import six_back, six_ball, six_image, six_keeps, six_numbers
from turnedpixels.sources import a_loss, came_from, comes_back, is_bare, meeting, next_bare, shows_loss
from turnedpixels.texts import (
    format_chain, format_picture, format_pixel, format_turn, parse_chain, parse_picture, parse_pixel, parse_turn,
)
from turnedpixels.turns import back, image, is_pixel, is_turn, joined, legs_of, turn_of
from turnedpixels.ways import is_way, product, shows_way, walked, walked_back, way_bound, way_for, way_miss

FOUR = ((1, 0), (-1, 0), (0, 1), (0, -1))
BLOCK = [(x, y) for x in range(-9, 10) for y in range(-9, 10)]


def size_of(turn):
    return turn[0] * turn[0] + turn[1] * turn[1]


def neighbours(pixel):
    return [(pixel[0] + x, pixel[1] + y) for x, y in FOUR]


class MeetingAndBare(unittest.TestCase):
    """[5]."""

    def test_pixels_that_meet(self):
        for turn in small_turns(9, [0, 1]):
            for pixel in small_pixels(4):
                found = came_from(turn, pixel)
                self.assertLessEqual(len(found), 2)
                self.assertIs(is_bare(turn, pixel), found == [])
                if len(found) == 2:
                    one, other = found
                    self.assertIn(other, neighbours(one))
                    self.assertEqual((meeting(turn, one), meeting(turn, other)), (other, one))
                    self.assertEqual([comes_back(turn, one), comes_back(turn, other)].count(True), 1)
                elif found:
                    self.assertIsNone(meeting(turn, found[0]))
                if found == []:
                    self.assertFalse(any(is_bare(turn, mate) for mate in neighbours(pixel)))

    def test_a_turn_keeps_all(self):
        for turn in small_turns(12, [0, 3]):
            c = size_of(turn)
            row = [(x, -5) for x in range(c)]
            keeping = turn[0] == abs(turn[1]) + 1
            self.assertIs(keeps_all(turn), keeping)
            self.assertIs(all(comes_back(turn, pixel) for pixel in row), keeping)
            self.assertIs(not any(is_bare(turn, pixel) for pixel in row), keeping)
            self.assertIs(not any(meeting(turn, pixel) for pixel in row), keeping)
            self.assertEqual((twice_number(turn) == 0, back_number(turn) == c, bare_share(turn) == (0, 1)), (keeping,) * 3)
            self.assertIs(is_way([turn]), keeping)
            if not keeping:
                self.assertIs(shows_loss(turn, a_loss(turn)), True)
                self.assertIs(is_bare(turn, next_bare(turn, (0, 0))), True)

    def test_numbers_of_rows(self):
        for turn in small_turns(7):
            for first, y in [(0, 0), (-11, 4), GREAT_PIXELS[5]]:
                row = [(first + x, y) for x in range(size_of(turn))]
                sources = [len(came_from(turn, pixel)) for pixel in row]
                self.assertEqual((sources.count(2), sources.count(0)), (twice_number(turn),) * 2)
                self.assertEqual(sum(comes_back(turn, pixel) for pixel in row), back_number(turn))
                self.assertEqual(sum(meeting(turn, pixel) is not None for pixel in row), kinds_of(turn)[2])

    def test_pictures_tell_the_same(self):
        for turn in small_turns(7, [0, 2]) + drawn_turns(10, 10, 10 ** 6):
            pairs = meetings_in(turn, BLOCK)
            self.assertEqual(len(pairs), lost_number(turn, BLOCK))
            for one, other in pairs:
                self.assertEqual(meeting(turn, one), other)
                self.assertIs(shows_loss(turn, ("meet", one, other)), True)
            for pixel in gaps_in(turn, BLOCK):
                self.assertIs(shows_loss(turn, ("bare", pixel)), True)
                self.assertEqual(came_from(turn, pixel), [])
            returning = {pixel for pixel in BLOCK if comes_back(turn, pixel)}
            self.assertLessEqual(returning, set(there_and_back(turn, BLOCK)))
            if keeps_all(turn):
                self.assertEqual((pairs, there_and_back(turn, BLOCK)), ([], BLOCK))

    def test_how_many_keep_all(self):
        turns = [turn for turn in small_turns(20) if keeps_all(turn)]
        for number in (0, 1, 4, 5, 100, 400):
            self.assertEqual(keeping_number(number), len([turn for turn in turns if size_of(turn) <= number]))


class RestsAndMisses(unittest.TestCase):
    """[6], with [14] to [17]."""

    def test_what_depends_on_the_rest_alone(self):
        for turn in small_turns(5, [0, 1]):
            table = {}
            for pixel in small_pixels(6):
                found = (meeting(turn, pixel) is None, comes_back(turn, pixel), miss(turn, pixel))
                rest = rest_of(turn, pixel)
                self.assertEqual(table.setdefault(rest, found), found)
                self.assertIs(same_rest(turn, pixel, first_with(turn, rest)), True)
                self.assertEqual(nearest_with(turn, rest, pixel), pixel)

    def test_counts_by_all_rests(self):
        for turn in small_turns(9, [0, 3]):
            p, q, _ = turn
            h, c = (size_of(turn) - 1) // 2, size_of(turn)
            rests = all_rests(turn)
            comes = [abs(p * m + q * n) <= h and abs(p * n - q * m) <= h for m, n in rests]
            squares = [Fraction(m * m + n * n, c) for m, n in rests]
            self.assertEqual((len(rests), sum(comes)), (c, back_number(turn)))
            self.assertEqual((as_fraction(mean_miss(turn)), as_fraction(greatest_miss(turn))), (sum(squares) / c, max(squares)))

    def test_parts_of_a_miss(self):
        for turn in small_turns(4) + GREAT_TURNS:
            for pixel in [(1, 0), (-2, 5)] + GREAT_PIXELS[:3]:
                x, y = map(as_fraction, miss_parts(turn, pixel))
                self.assertEqual(as_fraction(miss(turn, pixel)), x * x + y * y)
                place, found = fraction_place(turn, pixel), image(turn, pixel)
                self.assertEqual((found[0] - x, found[1] - y), place)


class ChainsAndShears(unittest.TestCase):
    """[8], with [18] and [19]."""

    def test_the_matrix_of_a_turn(self):
        for turn in small_turns(9, [0]) + [(p, q, 0) for p, q, _ in GREAT_TURNS + drawn_turns(30, 10, 10 ** 9)]:
            a, b, c = legs_of(turn)
            for order in ("xyx", "yxy"):
                chain = shear_chain(turn, order)
                self.assertEqual(matrix_of(chain), (a, -b, b, a, c))
                self.assertEqual(fewest_shears(matrix_of(chain)), 3 if turn[1] else 0)
                self.assertIs(shows_chain((a, -b, b, a, c), chain_for(matrix_of(chain))), True)
                for pixel in [(0, 1), (-7, 3), GREAT_PIXELS[6]]:
                    self.assertEqual(after_chain(chain, pixel), sheared(turn, order, pixel))
                    self.assertEqual(before_chain(chain, pixel), unsheared(turn, order, pixel))

    def test_nothing_is_lost_by_shears(self):
        for turn in small_turns(6):
            for order in ("xyx", "yxy"):
                self.assertEqual(Canvas(BLOCK).shear(turn, order), len(BLOCK))
                near = sum(sheared(turn, order, pixel) == image(turn, pixel) for pixel in BLOCK)
                number, greatest = shear_tally(turn, order)
                self.assertGreater(number, 0)
                if number == size_of(turn) * turn[0]:
                    self.assertEqual(near, len(BLOCK))
                self.assertLessEqual(as_fraction(greatest), as_fraction(shear_bound(turn)))
                misses = [as_fraction(shear_miss(turn, order, pixel)) for pixel in BLOCK[::7]]
                self.assertLessEqual(max(misses), as_fraction(greatest))
                for pixel, far in zip(BLOCK[::7], misses):
                    self.assertGreaterEqual(far, as_fraction(miss(turn, pixel)))


class Ways(unittest.TestCase):
    """[9], with [12] and [20]."""

    def test_every_turn_is_a_product(self):
        for turn in small_turns(12) + drawn_turns(60, 100, 10 ** 5, 10 ** 10):
            way = way_for(turn)
            self.assertTrue(all(keeps_all(item) for item in way))
            self.assertEqual(product(way), turn)
            self.assertEqual(joined(product(way[:1]), product(way[1:])) if way else (1, 0, 0), turn)
            self.assertLessEqual(2 ** len([item for item in way if item[1] != 0]), size_of(turn))

    def test_way_back(self):
        for turn in small_turns(7, [0, 1]):
            way = way_for(turn)
            other = [back(item) for item in way[::-1]]
            self.assertIs(shows_way(back(turn), other), True)
            for pixel in small_pixels(3) + GREAT_PIXELS[:2]:
                self.assertEqual(walked(other, pixel), walked_back(way, pixel))
                self.assertEqual(walked(way + other, pixel), pixel)

    def test_a_walk_loses_nothing_and_stays_near(self):
        for turn in small_turns(7, [0, 2]):
            way = way_for(turn)
            self.assertEqual(len(walked_picture(way, BLOCK)), len(BLOCK))
            bound = as_fraction(way_bound(way))
            for pixel in BLOCK[::11]:
                x, y = complex_product(factor_of(turn), pixel)
                r, s = walked(way, pixel)
                far = (r - x) ** 2 + (s - y) ** 2
                self.assertEqual(far, as_fraction(way_miss(way, pixel)))
                self.assertTrue(far < bound or far == bound == 0)

    def test_one_item_is_the_turn_itself(self):
        for turn in [turn for turn in small_turns(12) + GREAT_TURNS if keeps_all(turn)]:
            for pixel in small_pixels(2):
                self.assertEqual((walked([turn], pixel), way_miss([turn], pixel)), (image(turn, pixel), miss(turn, pixel)))


class OneThingToldTwice(unittest.TestCase):
    def test_legs_are_scales(self):
        for turn in small_turns(6) + drawn_turns(20, 10 ** 6, 10 ** 14):
            legs = legs_of(turn)
            self.assertEqual((class_number(legs), sum(meeting_numbers(legs))), (legs[2], twice_number(turn)))
            self.assertEqual((one_to_one(legs), onto(legs)), (keeps_all(turn),) * 2)
            for pixel in small_pixels(2) + GREAT_PIXELS[:3]:
                self.assertEqual(enlarged(legs, pixel), image(turn, pixel))
                self.assertEqual(sources_of(legs, pixel), came_from(turn, pixel))
                self.assertEqual(rounded(fraction_place(turn, pixel)), image(turn, pixel))

    def test_canvases_pictures_texts_and_the_console(self):
        desk, canvas = Console(), CountingCanvas(BLOCK)
        self.assertEqual(desk.execute("new " + format_picture(BLOCK)), "ok")
        for turn in small_turns(5, [0, 1])[:20]:
            text = format_turn(turn)
            self.assertEqual(desk.execute(f"lost {text}"), str(lost_number(turn, canvas.pixels)))
            expected = turned_picture(turn, canvas.pixels)
            self.assertEqual(desk.execute(f"turn {text}"), str(canvas.turn(turn)))
            self.assertEqual((canvas.pixels, parse_picture(desk.execute("show"))), (expected, expected))
        self.assertEqual(canvas.lost, len(BLOCK) - len(canvas))
        while canvas.deeds:
            canvas.undo()
            self.assertEqual(desk.execute("undo"), "ok")
            self.assertEqual(parse_picture(desk.execute("show")), canvas.pixels)
        self.assertEqual((canvas, canvas.pixels), (CountingCanvas(BLOCK), BLOCK))

    def test_texts_of_what_functions_return(self):
        for turn in small_turns(5) + GREAT_TURNS:
            self.assertEqual(parse_turn(format_turn(back(turn))), back(turn))
            self.assertEqual(turn_of(legs_of(turn)), turn)
            for order in ("xyx", "yxy"):
                self.assertEqual(parse_chain(format_chain(shear_chain(turn, order))), shear_chain(turn, order))
            pixel = image(turn, (10 ** 40, -3))
            self.assertEqual(parse_pixel(format_pixel(pixel)), pixel)

    def test_six_balls(self):
        for number in (0, 1, 2, 5, 20):
            six = six_ball(number)
            self.assertEqual((six_keeps(six), six_numbers(six)[0]), (True, 0))
            for pixel in small_pixels(3) + GREAT_PIXELS:
                self.assertEqual(six_image(six_back(six), six_image(six, pixel)), pixel)


class ReturnedValues(unittest.TestCase):
    """[2]: a value that was returned can be passed back, whatever its size."""

    def test_pixels_of_thousands_of_digits(self):
        pixel = GREAT_PIXELS[-1]
        for _ in range(7):
            pixel = after_chain([("x", HUGE, 1), ("y", -HUGE, 1)] * 4, pixel)
        self.assertGreater(abs(pixel[0]), 10 ** 5000)
        for turn in [(4, 1, 0), (4, 1, 3), GREAT_TURNS[0], GREAT_TURNS[5]]:
            found = image(turn, pixel)
            self.assertEqual(found, rounded(fraction_place(turn, pixel)))
            self.assertIn(pixel, came_from(turn, found))
            self.assertEqual(rest_of(turn, nearest_with(turn, rest_of(turn, pixel), pixel)), rest_of(turn, pixel))
            self.assertEqual(unsheared(turn, "yxy", sheared(turn, "yxy", pixel)), pixel)
            canvas = Canvas([(0, 0)])
            self.assertEqual([canvas.put(pixel), canvas.turn(turn)], [2, 2])
            self.assertEqual(canvas.pixels, sorted([(0, 0), found]))
            self.assertGreater(len(format_picture(canvas.pixels)), 5000)
        way = [(7, 6, 0), (2, -1, 3)]
        self.assertEqual(walked_back(way, walked(way, pixel)), pixel)
        self.assertLess(as_fraction(way_miss(way, pixel)), as_fraction(way_bound(way)))
        self.assertIn(pixel, sources_of((5, 5, 6), enlarged((5, 5, 6), pixel)))
        self.assertEqual(six_image(six_back((5, 2, 1)), six_image((5, 2, 1), pixel)), pixel)

    def test_matrices_and_chains(self):
        matrix = matrix_of([("x", 10 ** 99 + 1, 10 ** 98 + 3), ("y", -HUGE, HUGE - 2)] * 4)
        chain = chain_for(matrix)
        self.assertEqual(matrix_of(chain), matrix)
        self.assertEqual(before_chain(chain, after_chain(chain, (5, -7))), (5, -7))
        self.assertEqual(format_chain(chain).count("/"), len(chain))

    def test_places_and_returned_pairs_are_pixels(self):
        for turn in small_turns(4):
            loss = a_loss(turn) if not keeps_all(turn) else None
            self.assertTrue(loss is None or all(is_pixel(pixel) for pixel in loss[1:]))
            self.assertIs(is_turn(back(turn)), True)


if __name__ == "__main__":
    unittest.main()
