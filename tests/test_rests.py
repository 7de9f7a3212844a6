"""[13], and the facts of [6] where they can be counted."""

import sys
import time
import unittest
from fractions import Fraction

from tests.samples import (
    ANY_VALUES, GREAT_PIXELS, GREAT_TURNS, HUGE, LIMIT, NO_PIXELS, WRONG_TURNS, complex_product, fraction_place,
    fulfils_inequalities, rest_by_definition, small_pixels, small_turns, wrong_calls,
)
from turnedpixels.errors import InvalidPixel, InvalidRest, InvalidTurn, TooLarge
from turnedpixels.rests import all_rests, first_with, is_rest, nearest_with, rest_of, same_rest
from turnedpixels.turns import back, image, is_turn

# What is no rest of (4, 1, 0): no tuple of two integers, or outside the square of [6].
NO_RESTS = ANY_VALUES + [
    (2, 2), (-2, 2), (2, -2), (-2, -2), (3, 0), (0, 3), (-3, 0), (0, -3), (9, 9), (HUGE, 0), (0, -HUGE), (0, 0, 0),
    (2, -1), (-2, 1), (1, 2), (-1, -2),
]


def size_of(turn):
    return turn[0] * turn[0] + turn[1] * turn[1]


def rests_by_the_fact(turn):
    """All rests by the inequalities, from a range that is wide enough."""
    side = range(-2 * turn[0] - 1, 2 * turn[0] + 2)
    return [(m, n) for m in side for n in side if fulfils_inequalities(turn, m, n)]


def border_tuples(turn):
    """Tuples near the border of the square of [6], about the places where it meets the axes and its corners."""
    p, q, _ = turn
    h, c = (size_of(turn) - 1) // 2, size_of(turn)
    found = []
    for first, second in [(h, 0), (0, h), (-h, 0), (0, -h), (h, h), (h, -h), (-h, h), (-h, -h)]:
        # (first + second i) / u, and the tuples about it.
        m, n = complex_product((first, second), (p, -q))
        found += [(m // c + x, n // c + y) for x, y in small_pixels(2)]
    return found


class RestOf(unittest.TestCase):
    def test_by_the_definition(self):
        for turn in small_turns(7):
            for pixel in small_pixels(4):
                self.assertEqual(rest_of(turn, pixel), rest_by_definition(turn, pixel), (turn, pixel))

    def test_great_ones_by_the_definition(self):
        for turn in GREAT_TURNS + small_turns(3):
            for pixel in GREAT_PIXELS + [(1, 0), (0, 0)]:
                found = rest_of(turn, pixel)
                self.assertEqual(found, rest_by_definition(turn, pixel), (turn, pixel))
                self.assertIs(is_rest(turn, found), True)

    def test_quarters_change_nothing(self):
        for p, q, _ in small_turns(6, [0]) + GREAT_TURNS:
            for pixel in small_pixels(2) + GREAT_PIXELS[:3]:
                self.assertEqual(len({rest_of((p, q, k), pixel) for k in range(4)}), 1)

    def test_the_squared_distance(self):
        for turn in small_turns(6) + GREAT_TURNS:
            for pixel in small_pixels(2) + GREAT_PIXELS[:2]:
                m, n = rest_of(turn, pixel)
                place, found = fraction_place(turn, pixel), image(turn, pixel)
                far = (place[0] - found[0]) ** 2 + (place[1] - found[1]) ** 2
                self.assertEqual(far, Fraction(m * m + n * n, size_of(turn)))

    def test_wrong_arguments(self):
        kinds = [InvalidTurn, InvalidPixel]
        for at, arguments in wrong_calls([(4, 1, 0), (4, 0)], [WRONG_TURNS, NO_PIXELS]):
            self.assertRaises(kinds[at], rest_of, *arguments)

    def test_by_name(self):
        self.assertEqual(rest_of(pixel=(4, 0), turn=(4, 1, 0)), (-2, 0))


class IsRest(unittest.TestCase):
    def test_every_small_tuple(self):
        for turn in small_turns(6, [0, 3]):
            rests = {rest_by_definition(turn, (x, 0)): True for x in range(size_of(turn))}
            for value in small_pixels(14):
                self.assertIs(is_rest(turn, value), value in rests, (turn, value))

    def test_just_inside_and_just_outside_the_square(self):
        seen = []
        for turn in GREAT_TURNS + small_turns(9, [0]):
            for m, n in border_tuples(turn):
                expected = fulfils_inequalities(turn, m, n)
                self.assertIs(is_rest(turn, (m, n)), expected, (turn, m, n))
                if turn in GREAT_TURNS:
                    seen.append(expected)
        self.assertGreater(min(seen.count(True), seen.count(False)), 100)

    def test_each_of_the_two_inequalities_counts(self):
        # |p m - q n| and |q m + p n| of (4, 1, 0), with h = 8.
        self.assertEqual([is_rest((4, 1, 0), (2, n)) for n in range(-2, 3)], [False, False, True, True, False])
        self.assertEqual([is_rest((4, 1, 0), (n, 2)) for n in range(-2, 3)], [False, True, True, False, False])
        self.assertEqual([is_rest((1, 0, 0), (n, 0)) for n in range(-1, 2)], [False, True, False])

    def test_any_value(self):
        for turn in small_turns(3) + GREAT_TURNS:
            for value in ANY_VALUES:
                self.assertIs(is_rest(turn, value), False, (turn, value))
        for value in NO_RESTS:
            self.assertIs(is_rest((4, 1, 0), value), False, value)

    def test_wrong_turns(self):
        for turn in WRONG_TURNS:
            for value in [(0, 0), None]:
                self.assertRaises(InvalidTurn, is_rest, turn, value)

    def test_by_name(self):
        self.assertEqual([is_rest(value=(2, 1), turn=(4, 1, 0)), is_rest(value=(2, 2), turn=(4, 1, 0))], [True, False])


class SameRest(unittest.TestCase):
    def test_small_ones(self):
        for turn in small_turns(4):
            for pixel in [(0, 0), (3, -2)]:
                for mate in small_pixels(6):
                    expected = rest_by_definition(turn, pixel) == rest_by_definition(turn, mate)
                    self.assertIs(same_rest(turn, pixel, mate), expected, (turn, pixel, mate))

    def test_great_ones(self):
        for turn in GREAT_TURNS:
            p, q, _ = turn
            for x, y in GREAT_PIXELS[:5]:
                away = complex_product((p, -q), (3, 10 ** 20))
                self.assertIs(same_rest(turn, (x, y), (x + away[0], y + away[1])), True)
                self.assertIs(same_rest(turn, (x, y), (x + away[0] + 1, y + away[1])), False)
                self.assertIs(same_rest(turn, (x, y), (x, y)), True)

    def test_all_are_the_same_for_quarter_turns(self):
        for quarters in range(4):
            self.assertIs(same_rest((1, 0, quarters), (5, 7), (-3, HUGE)), True)

    def test_wrong_arguments(self):
        kinds = [InvalidTurn, InvalidPixel, InvalidPixel]
        good = [(4, 1, 0), (0, 0), (4, -1)]
        for at, arguments in wrong_calls(good, [WRONG_TURNS, NO_PIXELS, NO_PIXELS]):
            self.assertRaises(kinds[at], same_rest, *arguments)

    def test_by_name(self):
        self.assertIs(same_rest(mate=(4, -1), pixel=(0, 0), turn=(4, 1, 0)), True)


class AllRests(unittest.TestCase):
    def test_by_the_fact(self):
        for turn in small_turns(9):
            found = all_rests(turn)
            self.assertIsInstance(found, list)
            self.assertEqual(found, rests_by_the_fact(turn), turn)

    def test_there_are_c_of_them_in_ascending_order(self):
        for turn in small_turns(13) + [(34, 29, 0), (43, -2, 2)]:
            found = all_rests(turn)
            self.assertEqual(len(found), size_of(turn))
            self.assertTrue(all(one < other for one, other in zip(found, found[1:])))

    def test_each_belongs_to_one_pixel_of_any_row_of_c(self):
        for turn in small_turns(7):
            for first, y in [(0, 0), (-3, 5), (100, -7), (-(10 ** 44), 10 ** 44)]:
                row = [rest_of(turn, (first + x, y)) for x in range(size_of(turn))]
                self.assertEqual(sorted(row), all_rests(turn), (turn, first, y))

    def test_the_facts_of_coming_back_and_meeting(self):
        for turn in small_turns(6):
            p, q, _ = turn
            h, c = (size_of(turn) - 1) // 2, size_of(turn)
            for y in (0, 3):
                for x in range(c):
                    m, n = rest_of(turn, (x, y))
                    comes = abs(p * m + q * n) <= h and abs(p * n - q * m) <= h
                    self.assertIs(image(back(turn), image(turn, (x, y))) == (x, y), comes)
            meeting = {}
            for pixel in small_pixels(8):
                around = [(pixel[0] + x, pixel[1] + y) for x, y in [(1, 0), (-1, 0), (0, 1), (0, -1)]]
                meets = image(turn, pixel) in [image(turn, mate) for mate in around]
                self.assertIs(meeting.setdefault(rest_of(turn, pixel), meets), meets)

    def test_just_at_and_just_above_the_limit(self):
        at_limit, above = (34, 29, 0), (41, 18, 0)
        self.assertEqual([size_of(at_limit), size_of(above)], [1997, 2005])
        self.assertEqual(len(all_rests(at_limit)), 1997)
        for turn in [above, (41, -18, 3), (44, 9, 0), (45, 2, 0), (38, 25, 2)] + GREAT_TURNS:
            with self.assertRaises(TooLarge) as caught:
                all_rests(turn)
            self.assertEqual(caught.exception.limit, 2000)

    def test_all_turns_up_to_the_limit(self):
        turns = [turn for turn in small_turns(44, [0]) if size_of(turn) <= 2000]
        self.assertEqual((len(turns), turns[-1], size_of((44, 7, 1))), (639, (44, 7, 0), 1985))
        seconds = 0
        for p, q, _ in turns:
            start = time.perf_counter()
            first, *others = [all_rests((p, q, quarters)) for quarters in range(4)]
            seconds += time.perf_counter() - start
            self.assertEqual(others, [first] * 3, (p, q))
            # So many different ones: if all of them are rests, none is left out.
            self.assertEqual(len(first), p * p + q * q, (p, q))
            self.assertTrue(all(one < other for one, other in zip(first, first[1:])), (p, q))
            self.assertTrue(all(fulfils_inequalities((p, q, 0), m, n) for m, n in first), (p, q))
        print(f"\nall_rests of all {4 * len(turns)} turns with c to 2000: {seconds:.2f} s", file=sys.stderr)

    def test_each_list_is_new(self):
        first = all_rests((4, 1, 0))
        first.append("more")
        self.assertEqual([len(all_rests((4, 1, 0))), all_rests((1, 0, 2))], [17, [(0, 0)]])

    def test_wrong_turns(self):
        for turn in WRONG_TURNS:
            self.assertRaises(InvalidTurn, all_rests, turn)

    def test_by_name(self):
        self.assertEqual(all_rests(turn=(1, 0, 0)), [(0, 0)])


class FirstWith(unittest.TestCase):
    def test_all_rests_of_small_turns(self):
        for turn in small_turns(9):
            for x in range(size_of(turn)):
                self.assertEqual(first_with(turn, rest_by_definition(turn, (x, 0))), (x, 0))

    def test_great_turns(self):
        for turn in GREAT_TURNS:
            for pixel in GREAT_PIXELS + [(0, 0), (1, 0)]:
                rest = rest_of(turn, pixel)
                x, y = first_with(turn, rest)
                self.assertTrue(0 <= x < size_of(turn) and y == 0)
                self.assertEqual(rest_of(turn, (x, y)), rest)

    def test_great_turns_have_each_x_below_c(self):
        for turn in GREAT_TURNS:
            c = size_of(turn)
            for x in (0, 1, 2, c // 2, c // 3, c - 2, c - 1):
                self.assertEqual(first_with(turn, rest_of(turn, (x, 0))), (x, 0))
                self.assertEqual(first_with(turn, rest_of(turn, (x + c, 0))), (x, 0))

    def test_wrong_arguments(self):
        kinds = [InvalidTurn, InvalidRest]
        for at, arguments in wrong_calls([(4, 1, 0), (-2, 0)], [WRONG_TURNS, NO_RESTS]):
            self.assertRaises(kinds[at], first_with, *arguments)

    def test_rests_just_outside_the_square(self):
        for turn in GREAT_TURNS + small_turns(5):
            for value in border_tuples(turn):
                if not fulfils_inequalities(turn, *value):
                    self.assertRaises(InvalidRest, first_with, turn, value)
                    self.assertRaises(InvalidRest, nearest_with, turn, value, (0, 0))
                else:
                    self.assertEqual(rest_of(turn, first_with(turn, value)), value)
                    self.assertEqual(rest_of(turn, nearest_with(turn, value, (1, 2))), value)

    def test_by_name(self):
        self.assertEqual(first_with(rest=(-2, 0), turn=(4, 1, 0)), (4, 0))


class NearestWith(unittest.TestCase):
    def test_against_all_pixels_around(self):
        for turn in small_turns(5):
            reach = turn[0] + 1
            table = {}
            for pixel in small_pixels(reach + 1):
                table.setdefault(rest_of(turn, pixel), []).append(pixel)
            for rest, pixels in table.items():
                for x, y in [(0, 0), (1, 0), (-1, 1)]:
                    least = min(((a - x) ** 2 + (b - y) ** 2, (a, b)) for a, b in pixels)
                    self.assertEqual(nearest_with(turn, rest, (x, y)), least[1], (turn, rest, x, y))

    def test_great_ones(self):
        for turn in GREAT_TURNS + small_turns(3):
            p, q, _ = turn
            h = (size_of(turn) - 1) // 2
            for first in GREAT_PIXELS + [(1, 0)]:
                rest = rest_of(turn, first)
                for x, y in GREAT_PIXELS + [(0, 0)]:
                    found = nearest_with(turn, rest, (x, y))
                    self.assertEqual(rest_of(turn, found), rest)
                    # Any other pixel with the rest differs by a multiple of p - q i, so it is no nearer.
                    away = complex_product((p, q), (found[0] - x, found[1] - y))
                    self.assertTrue(abs(away[0]) <= h and abs(away[1]) <= h)

    def test_a_pixel_with_the_rest_is_its_own(self):
        for turn in GREAT_TURNS + small_turns(4):
            for pixel in GREAT_PIXELS + small_pixels(1):
                self.assertEqual(nearest_with(turn, rest_of(turn, pixel), pixel), pixel)

    def test_wrong_arguments(self):
        kinds = [InvalidTurn, InvalidRest, InvalidPixel]
        good = [(4, 1, 0), (0, 0), (5, 5)]
        for at, arguments in wrong_calls(good, [WRONG_TURNS, NO_RESTS, NO_PIXELS]):
            self.assertRaises(kinds[at], nearest_with, *arguments)

    def test_by_name(self):
        found = nearest_with(pixel=(10 ** 30, 3), rest=(0, 0), turn=(4, 1, 0))
        self.assertEqual(found, (10 ** 30 + 1, 2))


class Samples(unittest.TestCase):
    def test_the_great_turns_are_turns(self):
        self.assertEqual([turn for turn in GREAT_TURNS if not is_turn(turn)], [])
        self.assertEqual(max(turn[0] for turn in GREAT_TURNS), LIMIT)


if __name__ == "__main__":
    unittest.main()
