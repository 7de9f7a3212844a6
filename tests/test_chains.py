"""[8] and [19], against shears in fractions and a search."""

import copy
import random
import unittest
from fractions import Fraction
from math import floor, gcd

from tests.samples import (
    ANY_VALUES, GREAT_PIXELS, HUGE, NO_CHAINS, NO_PIXELS, NO_STEPS, STEPS, STEP, called, led, r_of, small_pixels,
    wrong_calls,
)
from turnedpixels.chains import (
    after_chain, before_chain, chain_for, fewest_shears, first_parting, is_chain, is_matrix, matrix_of, shows_chain,
)
from turnedpixels.errors import InvalidChain, InvalidMatrix, InvalidNumber, InvalidPixel

NO_MATRICES = ANY_VALUES + [
    (1, 0, 0, 1), (1, 0, 0, 1, 1, 1), [1, 0, 0, 1, 1], (1, 0, 0, 1, 0), (1, 0, 0, 1, -1), (-1, 0, 0, -1, -1),
    (2, 0, 0, 2, 2), (3, 0, 0, 3, 3), (6, -8, 8, 6, 10), (2, 1, 1, 2, 1), (1, 0, 0, -1, 1), (0, 0, 0, 0, 0),
    (0, 0, 0, 0, 1), (1, 1, 1, 1, 1), (0, 1, 1, 0, 1), (3, -4, 4, 3, -5), (3, 4, 4, 3, 5), (3, -4, 4, 3, 4),
    (True, 0, 0, 1, 1), (1, False, 0, 1, 1), (1, 0, 0, 1, True), (1, 0, 0, True, 1), (1, 0, False, 1, 1),
    (1, None, 0, 1, 1), ("1", 0, 0, 1, 1), (1, 0, 0, 1, "1"), (1, (0,), 0, 1, 1), (1, 0, 0, 1, None),
    (HUGE, 0, 0, HUGE, 1), (HUGE, 0, 0, HUGE, HUGE), (1, HUGE, HUGE, 1, 1), (4, 0, 0, 1, -2), (-4, 0, 0, -1, -2),
]
NO_REACHES = [value for value in ANY_VALUES if isinstance(value, bool) or not isinstance(value, int)] + [
    -1, -2, -30, 31, 32, 10 ** 44, HUGE, -HUGE, (3,), [3], "3",
]
KINDS = {
    "chain": InvalidChain, "second": InvalidChain, "pixel": InvalidPixel, "matrix": InvalidMatrix,
    "reach": InvalidNumber,
}


def shears(chain):
    """The four fractions of the matrix of a chain."""
    a, b, c, d = Fraction(1), Fraction(0), Fraction(0), Fraction(1)
    for axis, number, divisor in chain:
        part = Fraction(number, divisor)
        a, b, c, d = (a + part * c, b + part * d, c, d) if axis == "x" else (a, b, c + part * a, d + part * b)
    return (a, b, c, d)


def matrix_by_definition(chain):
    parts = shears(chain)
    e = 1
    for part in parts:
        e = e * part.denominator // gcd(e, part.denominator)
    return tuple(int(part * e) for part in parts) + (e,)


def few_steps(numbers, divisors):
    return [(axis, n, d) for axis in "xy" for n in numbers for d in divisors]


def short_chains():
    """All chains of up to three steps with few numbers."""
    steps = few_steps((-2, -1, 0, 1, 3), (1, 2))
    more = few_steps((-1, 1, 2), (1, 3))
    return [[]] + [[one] for one in steps] + [[one, other] for one in steps for other in steps] + [
        [one, other, third] for one in more for other in more for third in more]


def some_chains(number, greatest, longest=8):
    """Chains by a fixed row of numbers."""
    chance = random.Random(number * greatest + longest)
    return [[(chance.choice("xy"), chance.randint(-greatest, greatest), chance.randint(1, greatest))
             for _ in range(chance.randint(0, longest))] for _ in range(number)]


LONG_CHAINS = some_chains(60, 7) + some_chains(40, 10 ** 6) + some_chains(30, 10 ** 45 - 1) + [
    [("x", 10 ** 99, 1), ("y", -HUGE, HUGE - 1)] * 4, [("x", 1, 2)] * 8, [("y", 1, HUGE)] * 8,
    [("x", 0, 5), ("y", 0, HUGE)], [("x", 6, 4), ("y", -10, 5), ("x", -6, 4)],
]


class WhetherValues(unittest.TestCase):
    def test_chains(self):
        for value in [[], [STEP], [STEP] * 8, STEPS, [("y", 0, 1)], [("x", -HUGE, HUGE)], [("x", 6, 4)]] + LONG_CHAINS:
            self.assertIs(called(is_chain, value), True, value)
        for value, _ in NO_CHAINS:
            self.assertIs(called(is_chain, value), False, value)

    def test_each_step_counts(self):
        for wrong in NO_STEPS:
            for at in range(8):
                self.assertIs(is_chain([STEP] * at + [wrong] + [STEP] * (7 - at)), False, (wrong, at))

    def test_matrices(self):
        good = [(1, 0, 0, 1, 1), (1, 5, 0, 1, 1), (3, 2, 1, 1, 1), (3, -4, 4, 3, 5), (4, 0, 0, 1, 2),
                (-1, 0, 0, -1, 1), (0, 1, -1, 0, 1), (1, HUGE, 0, 1, 1), (HUGE, HUGE - 1, 1, 1, 1), (2, 0, 1, 2, 2)]
        for value in good + [matrix_by_definition(chain) for chain in LONG_CHAINS]:
            self.assertIs(called(is_matrix, value), True, value)
        for value in NO_MATRICES:
            self.assertIs(called(is_matrix, value), False, value)

    def test_every_small_tuple(self):
        number = 0
        for e in range(-2, 4):
            for a in range(-4, 5):
                for b in range(-3, 4):
                    for c in range(-3, 4):
                        for d in range(-4, 5):
                            expected = e > 0 and a * d - b * c == e * e and gcd(gcd(a, b), gcd(gcd(c, d), e)) == 1
                            number += expected
                            self.assertIs(is_matrix((a, b, c, d, e)), expected, (a, b, c, d, e))
        self.assertGreater(number, 100)


class Leading(unittest.TestCase):
    def check(self, chain, pixel):
        found = called(after_chain, chain, pixel)
        self.assertEqual(found, led(chain, pixel), (chain, pixel))
        self.assertEqual(called(before_chain, chain, found), pixel, (chain, pixel))
        self.assertEqual(led(chain, called(before_chain, chain, pixel)), pixel, (chain, pixel))

    def test_short_chains(self):
        for chain in short_chains():
            for pixel in [(0, 0), (1, -1), (-3, 5), (10 ** 39, -(10 ** 39) - 1)]:
                found = after_chain(chain, pixel)
                self.assertEqual(found, led(chain, pixel))
                self.assertEqual(before_chain(chain, found), pixel)

    def test_long_chains(self):
        for chain in LONG_CHAINS:
            for pixel in small_pixels(1) + GREAT_PIXELS:
                self.check(chain, pixel)

    def test_halves_and_negative_numbers(self):
        found = [after_chain([("x", n, 2)], (0, y)) for n in (1, -1) for y in range(-4, 5)]
        self.assertEqual(found, [(x, y) for x, y in zip([-2, -1, -1, 0, 0, 1, 1, 2, 2, 2, 2, 1, 1, 0, 0, -1, -1, -2],
                                                        list(range(-4, 5)) * 2)])
        found = [after_chain([("y", 3, 2)], (x, 0)) for x in range(-3, 4)]
        self.assertEqual(found, [(-3, -4), (-2, -3), (-1, -1), (0, 0), (1, 2), (2, 3), (3, 5)])
        found = [before_chain([("x", 1, 2)], (0, y)) for y in range(-3, 4)]
        self.assertEqual(found, [(1, -3), (1, -2), (0, -1), (0, 0), (-1, 1), (-1, 2), (-2, 3)])
        for number in (10 ** 39 + 1, -(10 ** 39) - 1, 10 ** 40 - 1, 1 - 10 ** 40):
            for n in (1, -1, 3, -5):
                for axis in "xy":
                    self.check([(axis, n, 2), ("y", n, 4)], (number, number))
                    self.check([(axis, n, 2)], (number, -number))

    def test_just_below_and_just_above_a_half(self):
        d = 10 ** 40 + 1
        for n, expected in [(d // 2, 0), (d // 2 + 1, 1), (-(d // 2), 0), (-(d // 2) - 1, -1)]:
            self.assertEqual(after_chain([("x", n, d)], (0, 1)), (expected, 1))
            self.assertEqual(after_chain([("y", n, d)], (1, 0)), (1, expected))
        self.assertEqual([after_chain([("x", n, 2 * d)], (0, 1)) for n in (d, d - 1, -d, -d - 1)],
                         [(1, 1), (0, 1), (0, 1), (-1, 1)])

    def test_one_after_the_other(self):
        self.assertEqual(after_chain([("x", 1, 1), ("y", 1, 1)], (1, 1)), (2, 3))
        self.assertEqual(after_chain([("y", 1, 1), ("x", 1, 1)], (1, 1)), (3, 2))
        self.assertEqual(before_chain([("x", 1, 1), ("y", 1, 1)], (2, 3)), (1, 1))

    def test_each_pixel_is_reached_once(self):
        for chain in [STEPS, [("x", 1, 3), ("y", -2, 5)], [("y", 7, 2), ("x", -1, 2), ("y", 1, 9)]]:
            self.assertEqual(len({after_chain(chain, pixel) for pixel in small_pixels(6)}), 169)

    def test_the_empty_chain(self):
        for pixel in GREAT_PIXELS + [(0, 0)]:
            self.assertEqual([after_chain([], pixel), before_chain([], pixel)], [pixel] * 2)

    def test_arguments_stay_as_they_are(self):
        chain = copy.deepcopy(STEPS)
        for function in (after_chain, before_chain):
            function(chain, (5, 7))
            self.assertEqual(chain, STEPS)
        self.assertEqual((matrix_of(chain), first_parting(chain, chain, 3), chain), ((3, -4, 4, 3, 5), None, STEPS))


class Matrices(unittest.TestCase):
    def test_matrix_of(self):
        for chain in short_chains() + LONG_CHAINS:
            found = called(matrix_of, chain)
            self.assertEqual(found, matrix_by_definition(chain), chain)
            self.assertIs(is_matrix(found), True)

    def test_some_matrices(self):
        found = [matrix_of(chain) for chain in [[], [("x", 0, 7)], [("x", 6, 4)], [("y", -6, 4)], STEPS, STEPS + STEPS]]
        self.assertEqual(found, [(1, 0, 0, 1, 1), (1, 0, 0, 1, 1), (2, 3, 0, 2, 2), (2, 0, -3, 2, 2),
                                 (3, -4, 4, 3, 5), (-7, -24, 24, -7, 25)])

    def test_fewest_shears_of_each_case(self):
        cases = {
            0: [(1, 0, 0, 1, 1)],
            1: [(1, 5, 0, 1, 1), (1, 0, -5, 1, 1), (2, 3, 0, 2, 2), (7, 0, 1, 7, 7), (1, HUGE, 0, 1, 1)],
            2: [(3, 2, 1, 1, 1), (1, 2, 1, 3, 1), (2, 2, 1, 3, 2), (0, 1, -1, 1, 1), (1, 1, -1, 0, 1),
                (5, 1, -25, 0, 5), (-5, 2, -3, 1, 1), (1, -2, 3, -5, 1)],
            3: [(3, -4, 4, 3, 5), (0, -1, 1, 0, 1), (4, 0, 1, 1, 2), (4, 1, 0, 1, 2), (-1, 1, 0, -1, 1),
                (-1, 0, 7, -1, 1), (2, 3, 1, 2, 1), (1, 1, 0, 4, 2), (-3, -4, 4, -3, 5)],
            4: [(4, 0, 0, 1, 2), (1, 0, 0, 4, 2), (-1, 0, 0, -1, 1), (-4, 0, 0, -1, 2), (9, 0, 0, 4, 6),
                (HUGE * HUGE, 0, 0, 1, HUGE), (-25, 0, 0, -1, 5)],
        }
        for expected, matrices in cases.items():
            for matrix in matrices:
                self.assertTrue(is_matrix(matrix), matrix)
                self.assertEqual(called(fewest_shears, matrix), expected, matrix)

    def test_fewest_shears_by_the_fact(self):
        chains = short_chains() + LONG_CHAINS
        # Chains of four steps that only stretch.
        for n, d in [(2, 1), (-1, 1), (-2, 1), (1, 3), (-5, 7), (-1, 2), (10 ** 20, 3)]:
            part = Fraction(n, d)
            rest = [("x", 1, 1), ("y", n - d, d), ("x", -d, n), ("y", -n * (n - d), d * d)]
            chains.append([(axis, *((m, k) if k > 0 else (-m, -k))) for axis, m, k in rest])
            self.assertEqual(shears(chains[-1])[1:3], (0, 0))
            self.assertEqual(shears(chains[-1])[3], part)
        seen = set()
        for chain in chains:
            a, b, c, d = shears(chain)
            if (a, b, c, d) == (1, 0, 0, 1):
                expected = 0
            elif a == d == 1 and 0 in (b, c):
                expected = 1
            elif 1 in (a, d):
                expected = 2
            else:
                expected = 3 if (b, c) != (0, 0) else 4
            seen.add(expected)
            matrix = matrix_by_definition(chain)
            self.assertEqual(fewest_shears(matrix), expected, chain)
            self.assertTrue(expected <= len(chain))
        self.assertEqual(seen, {0, 1, 2, 3, 4})

    def test_no_shorter_chain_has_the_matrix(self):
        least = {}
        for chain in sorted(short_chains(), key=len):
            least.setdefault(matrix_by_definition(chain), len(chain))
        for matrix, steps in least.items():
            self.assertLessEqual(fewest_shears(matrix), steps, matrix)

    def check(self, matrix):
        found = called(chain_for, matrix)
        self.assertTrue(is_chain(found))
        self.assertEqual(matrix_by_definition(found), matrix)
        self.assertEqual(len(found), fewest_shears(matrix), (matrix, found))
        self.assertIs(called(shows_chain, matrix, found), True)

    def test_chain_for(self):
        for chain in short_chains() + LONG_CHAINS:
            self.check(matrix_by_definition(chain))

    def test_chain_for_all_small_matrices(self):
        number = 0
        for e in range(1, 5):
            for a in range(-4, 5):
                for b in range(-4, 5):
                    for c in range(-4, 5):
                        for d in range(-4, 5):
                            if is_matrix((a, b, c, d, e)):
                                number += 1
                                self.check((a, b, c, d, e))
        self.assertGreater(number, 200)

    def test_chain_for_great_matrices(self):
        for matrix in [(1, HUGE, 0, 1, 1), (1, 0, -HUGE, 1, 1), (HUGE, HUGE - 1, 1, 1, 1), (HUGE * HUGE, 0, 0, 1, HUGE),
                       (-HUGE * HUGE, 0, 0, -1, HUGE), (10 ** 90, 0, 0, 1, 10 ** 45), (0, HUGE, -HUGE, 0, HUGE),
                       (10 ** 44, 1, -1, 0, 1), (0, 1, -1, 10 ** 44, 1)]:
            if is_matrix(matrix):
                self.check(matrix)

    def test_each_list_is_new(self):
        for matrix in [(1, 0, 0, 1, 1), (1, 5, 0, 1, 1), (3, 2, 1, 1, 1), (3, -4, 4, 3, 5), (4, 0, 0, 1, 2)]:
            kept = chain_for(matrix)
            chain_for(matrix).append(STEP)
            chain_for(matrix).clear()
            self.assertEqual(chain_for(matrix), kept)

    def test_shows_chain(self):
        for matrix in [(1, 0, 0, 1, 1), (3, -4, 4, 3, 5), (4, 0, 0, 1, 2), (2, 1, 0, 2, 2)]:
            for chain in [[], [STEP], STEPS, chain_for((4, 0, 0, 1, 2)), STEPS + [STEP], [("x", 2, 4)], STEPS[:2],
                          [("x", -2, 4)] + STEPS[1:], [("y", 0, 1)], [STEP] * 2, [("x", 1, 4)] * 2] + short_chains()[:99]:
                expected = matrix_by_definition(chain) == matrix
                self.assertIs(called(shows_chain, matrix, chain), expected, (matrix, chain))
            for value, _ in NO_CHAINS:
                self.assertIs(called(shows_chain, matrix, value), False, value)
        self.assertIs(shows_chain((2, 1, 0, 2, 2), [STEP]), True)
        self.assertIs(shows_chain((2, 1, 0, 2, 2), (STEP,)), False)
        self.assertIs(shows_chain((3, -4, 4, 3, 5), tuple(STEPS)), False)
        # Too long, although it changes nothing.
        self.assertIs(shows_chain((1, 0, 0, 1, 1), [("x", 0, 1)] * 8), True)
        self.assertIs(shows_chain((1, 0, 0, 1, 1), [("x", 0, 1)] * 9), False)


class FirstParting(unittest.TestCase):
    def search(self, chain, second, reach):
        for pixel in small_pixels(reach):
            if led(chain, pixel) != led(second, pixel):
                return pixel
        return None

    def test_against_a_search(self):
        chains = some_chains(14, 5, 3) + [[], STEPS, [("x", 1, 2)], [("x", 2, 4)], [("x", 1, 3)], [("y", 1, 9)]]
        seen = []
        for at, chain in enumerate(chains):
            for second in chains[at:]:
                for reach in (0, 1, 4):
                    expected = self.search(chain, second, reach)
                    seen.append(expected)
                    self.assertEqual(called(first_parting, chain, second, reach), expected, (chain, second, reach))
                    self.assertEqual(first_parting(second, chain, reach), expected)
        self.assertTrue(seen.count(None) > 20 and len(set(seen)) > 5)

    def test_the_least_pixel(self):
        # r(-9, 14) is -1, r(-9, 18) is 0 and r(9, 18) is 1; r(30, 60) is 1 and r(-30, 60) is 0.
        found = [first_parting([], [("y", 1, d)], 9) for d in (1, 14, 18)] + [first_parting([], [("x", 1, 14)], 9)]
        self.assertEqual(found, [(-9, -9), (-9, -9), (9, -9), (-9, -9)])
        self.assertEqual([first_parting([], [("x", 1, 18)], reach) for reach in (8, 9, 10)], [None, (-9, 9), (-10, -10)])
        self.assertEqual([first_parting([], [("y", 1, 60)], reach) for reach in (29, 30)], [None, (30, -30)])
        self.assertEqual([first_parting([], [("x", 1, 60)], reach) for reach in (29, 30)], [None, (-30, 30)])
        self.assertEqual([first_parting([], [("x", -1, 60)], reach) for reach in (29, 30)], [None, (-30, -30)])
        self.assertEqual([first_parting([], [("y", -1, 60)], reach) for reach in (29, 30)], [None, (-30, -30)])
        self.assertEqual([first_parting([], [("x", -1, 61)], reach) for reach in (29, 30)], [None, None])
        self.assertEqual(first_parting([], [("x", -1, 59)], 30), (-30, -30))

    def test_chains_that_nowhere_part(self):
        for reach in (0, 1, 30):
            self.assertIsNone(first_parting([("x", 1, 2)], [("x", 2, 4)], reach))
            self.assertIsNone(first_parting(STEPS, copy.deepcopy(STEPS), reach))
            self.assertIsNone(first_parting([], [("x", 0, 5), ("y", 1, 10 ** 45)], reach))
            self.assertIsNone(first_parting([("x", 3, 1)], [("x", 1, 1), ("x", 4, 2)], reach))
            self.assertIsNone(first_parting([], [], reach))

    def test_one_matrix_and_different_pixels(self):
        chain = [("x", 1, 4), ("x", 1, 4)]
        self.assertEqual(matrix_of(chain), matrix_of([("x", 1, 2)]))
        self.assertEqual(first_parting(chain, [("x", 1, 2)], 3), self.search(chain, [("x", 1, 2)], 3))
        self.assertEqual(first_parting(chain, [("x", 1, 2)], 1), (-1, 1))

    def test_the_middle_never_parts(self):
        for chain in LONG_CHAINS[:20]:
            self.assertIsNone(first_parting(chain, [], 0))

    def test_long_chains(self):
        for chain, second in [(LONG_CHAINS[1], LONG_CHAINS[2]), (LONG_CHAINS[70], LONG_CHAINS[71]),
                              (LONG_CHAINS[110], LONG_CHAINS[111]), ([STEP] * 8, [STEP] * 7 + [("x", 10, 21)])]:
            for reach in (2, 12, 30):
                self.assertEqual(first_parting(chain, second, reach), self.search(chain, second, reach))


class Errors(unittest.TestCase):
    GOOD = {"chain": STEPS, "second": [STEP], "pixel": (1, 0), "matrix": (3, -4, 4, 3, 5), "reach": 3}
    WRONG = {
        "chain": [value for value, _ in NO_CHAINS], "second": [value for value, _ in NO_CHAINS],
        "pixel": NO_PIXELS, "matrix": NO_MATRICES, "reach": NO_REACHES,
    }

    def check(self, function, *names):
        good, wrong = [self.GOOD[name] for name in names], [self.WRONG[name] for name in names]
        function(*good)
        for at, arguments in wrong_calls(good, wrong):
            before = repr(arguments)
            self.assertRaises(KINDS[names[at]], function, *arguments)
            self.assertRaises(KINDS[names[at]], function, **dict(zip(names, arguments)))
            self.assertEqual(repr(arguments), before)

    def test_each_function(self):
        for function in (after_chain, before_chain):
            self.check(function, "chain", "pixel")
        self.check(matrix_of, "chain")
        self.check(fewest_shears, "matrix")
        self.check(chain_for, "matrix")
        self.check(first_parting, "chain", "second", "reach")

    def test_shows_chain_checks_the_matrix_alone(self):
        for matrix in NO_MATRICES:
            for value in (STEPS, None, [None]):
                self.assertRaises(InvalidMatrix, shows_chain, matrix, value)
                self.assertRaises(InvalidMatrix, shows_chain, value=value, matrix=matrix)

    def test_the_index(self):
        calls = [
            lambda value: after_chain(value, (0, 0)), lambda value: after_chain(value, None),
            lambda value: before_chain(value, (0, 0)), lambda value: before_chain(value, [1]), matrix_of,
            lambda value: first_parting(value, [], 3), lambda value: first_parting(value, None, None),
            lambda value: first_parting(STEPS, value, 3), lambda value: first_parting([], value, -1),
        ]
        for value, index in NO_CHAINS:
            for call in calls:
                with self.assertRaises(InvalidChain) as caught:
                    call(value)
                self.assertEqual(caught.exception.index, index, value)
                self.assertIs(type(caught.exception.index), type(index))

    def test_the_first_of_two_chains_is_told(self):
        with self.assertRaises(InvalidChain) as caught:
            first_parting([STEP, None], [None], None)
        self.assertEqual(caught.exception.index, 1)

    def test_edges_of_reach(self):
        self.assertEqual([first_parting([], [STEP], reach) for reach in (0, 1, 30)], [None, (-1, 1), (-30, -30)])
        for reach in (-1, 31, True, False):
            self.assertRaises(InvalidNumber, first_parting, [], [], reach)


if __name__ == "__main__":
    unittest.main()
