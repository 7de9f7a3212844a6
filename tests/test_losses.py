"""[14], and the facts of [5] that it rests on."""

import unittest
from fractions import Fraction
from math import gcd

from tests.samples import (
    ANY_VALUES, GREAT_KEEPING, GREAT_NARROW, GREAT_TURNS, HUGE, LIMIT, WRONG_TURNS, as_fraction, called,
    fulfils_inequalities, plain_back, plain_image, small_turns, sources_by_search,
)
from turnedpixels.errors import InvalidNumber, InvalidTurn
from turnedpixels.losses import back_number, bare_share, keeping_number, keeps_all, kinds_of, twice_number

OF_A_TURN = [keeps_all, twice_number, back_number, bare_share, kinds_of]
NO_NUMBERS = [value for value in ANY_VALUES if isinstance(value, bool) or not isinstance(value, int)] + [
    -1, -2, -5, -(10 ** 45), -HUGE, (1,), [0], "0", {"number": 1},
]


def size_of(turn):
    return turn[0] * turn[0] + turn[1] * turn[1]


def counted(turn, first, y):
    """Of the pixels of a row of c: how many are hit twice, are bare, come back; and the three kinds."""
    twice = bare = returning = 0
    kinds = [0, 0, 0]
    for x in range(first, first + size_of(turn)):
        sources = sources_by_search(turn, (x, y))
        assert len(sources) <= 2
        twice += len(sources) == 2
        bare += sources == []
        found = plain_image(turn, (x, y))
        comes = plain_image(plain_back(turn), found) == (x, y)
        returning += comes
        meets = len(sources_by_search(turn, found)) == 2
        kinds[2 if meets else 0 if comes else 1] += 1
    return twice, bare, returning, tuple(kinds)


def twice_by_the_narrow_side(turn):
    """Twice the number of rests r such that r + u is a rest, too: of the pixels of a row that meet the next one.

    With X + Y i = u * r, X and X + a go from -h to h, Y and Y + b as well; one of the two is left few numbers.
    """
    p, q, _ = turn
    c = size_of(turn)
    h, a, b = (c - 1) // 2, p * p - q * q, 2 * p * q
    by_x = c - a < c - abs(b)
    grown = a if by_x else b
    number = 0
    for narrow in range(max(-h, -h - grown), min(h, h - grown) + 1):
        # p * Y = q * X modulo c, as u * r is a multiple of u.
        wide = narrow * (q * pow(p, -1, c) if by_x else p * pow(q, -1, c)) % c
        wide -= c if wide > h else 0
        x, y = (narrow, wide) if by_x else (wide, narrow)
        m, n = (p * x + q * y) // c, (p * y - q * x) // c
        assert (p * m - q * n, q * m + p * n) == (x, y) and fulfils_inequalities(turn, m, n)
        number += fulfils_inequalities(turn, m + p, n + q)
    return 2 * number


def sum_of_few_values(value, last):
    """The sum of value(n) for n from 1 to last, of a function that only rises, or only falls, and not much."""
    total, first = 0, 1
    while first <= last:
        low, high = first, last
        while low < high:
            middle = (low + high + 1) // 2
            if value(middle) == value(first):
                low = middle
            else:
                high = middle - 1
        total += value(first) * (low - first + 1)
        first = low + 1
    return total


def back_by_few_values(turn):
    """The number of tuples (m, n) with p |m| + |q n| <= h and |q m| + p |n| <= h, for a small |q| or p - |q|."""
    p, q = turn[0], abs(turn[1])
    h = (size_of(turn) - 1) // 2
    # n from 1 on, m above n: only the first of the two counts, and leaves (h - q n) // p - n numbers.
    last = max(0, (h - p) // (p + q))
    if q < p - q:
        part = sum_of_few_values(lambda n: (h - q * n) // p, last) - last * (last + 1) // 2
    else:
        part = sum_of_few_values(lambda n: (h - q * n) // p + n, last) - last * (last + 1)
    return 1 + 4 * (h // p) + 4 * (h // (p + q)) + 8 * part


class SmallTurns(unittest.TestCase):
    def check(self, turn, first, y):
        twice, bare, returning, kinds = counted(turn, first, y)
        self.assertEqual(twice, bare, turn)
        self.assertEqual(called(twice_number, turn), twice, turn)
        self.assertEqual(called(back_number, turn), returning, turn)
        self.assertEqual(called(kinds_of, turn), kinds, turn)
        self.assertEqual(as_fraction(called(bare_share, turn)), Fraction(bare, size_of(turn)), turn)
        self.assertIs(called(keeps_all, turn), kinds[2] == 0, turn)

    def test_all_with_all_quarters(self):
        for turn in small_turns(13):
            self.check(turn, 0, 0)

    def test_greater_ones(self):
        for turn in small_turns(21, [0]):
            if turn[0] > 13:
                p, q, _ = turn
                self.check((p, q, (p + q) // 2 % 4), 0, 0)

    def test_other_rows(self):
        for turn in small_turns(6):
            self.check(turn, -7, 11)
            self.check(turn, 10 ** 43 + 5, -3 * 10 ** 43)

    def test_all_kinds_occur(self):
        kinds = [kinds_of(turn) for turn in small_turns(13, [0])]
        self.assertTrue(any(kind[1] > 0 for kind in kinds) and any(kind[1:] == (0, 8) for kind in kinds))

    def test_quarter_turns(self):
        for quarters in range(4):
            turn = (1, 0, quarters)
            self.assertEqual([function(turn) for function in OF_A_TURN], [True, 0, 1, (0, 1), (1, 0, 0)])


class KeepsAll(unittest.TestCase):
    def test_all_small_turns_and_great_ones(self):
        for turn in small_turns(30) + GREAT_TURNS + GREAT_NARROW + GREAT_KEEPING:
            self.assertIs(keeps_all(turn), turn[0] - abs(turn[1]) == 1, turn)
        self.assertTrue(all(keeps_all(turn) for turn in GREAT_KEEPING))
        self.assertFalse(any(keeps_all(turn) for turn in GREAT_NARROW))

    def test_nothing_is_lost_then(self):
        for turn in GREAT_KEEPING + [turn for turn in small_turns(20) if turn[0] == abs(turn[1]) + 1]:
            c = size_of(turn)
            found = [called(function, turn) for function in OF_A_TURN]
            self.assertEqual(found, [True, 0, c, (0, 1), (c, 0, 0)])


class GreatTurns(unittest.TestCase):
    def test_the_helpers_of_this_file(self):
        for turn in small_turns(11, [0]):
            if turn != (1, 0, 0):
                twice, _, returning, _ = counted(turn, 0, 0)
                self.assertEqual((twice_by_the_narrow_side(turn), back_by_few_values(turn)), (twice, returning), turn)

    def test_sums_and_signs(self):
        for turn in GREAT_TURNS + GREAT_NARROW + GREAT_KEEPING + small_turns(40, [1]):
            c, twice, returning = size_of(turn), called(twice_number, turn), called(back_number, turn)
            kinds = called(kinds_of, turn)
            self.assertEqual((sum(kinds), kinds[2], kinds[0] + twice), (c, 2 * twice, returning), turn)
            self.assertTrue(kinds[0] > 0 and kinds[1] >= 0 and twice >= 0, turn)
            self.assertIs(twice == 0, keeps_all(turn))
            self.assertIs(returning == c, keeps_all(turn))
            # A quarter turn leads bare pixels to bare ones, and none to itself but (0, 0), which is not bare.
            self.assertEqual((twice % 4, (returning - 1) % 4), (0, 0))
            self.assertEqual(as_fraction(called(bare_share, turn)), Fraction(twice, c), turn)

    def test_a_small_q_or_nearly_p(self):
        for turn in GREAT_NARROW + GREAT_KEEPING:
            self.assertEqual(called(twice_number, turn), twice_by_the_narrow_side(turn), turn)
            self.assertEqual(called(back_number, turn), back_by_few_values(turn), turn)

    def test_many_of_them(self):
        for p in (997, 1000, 10 ** 6 + 3, LIMIT - 5, LIMIT):
            for size in range(1, 17):
                for q in (size, -size, p - size, size - p):
                    if (p + q) % 2 == 1 and gcd(p, q) == 1:
                        turn = (p, q, size % 4)
                        found = (twice_number(turn), back_number(turn))
                        self.assertEqual(found, (twice_by_the_narrow_side(turn), back_by_few_values(turn)), turn)

    def test_q_is_one(self):
        for p in [4, 6, 10, 1000, 10 ** 9, LIMIT - 2, LIMIT]:
            for q in (1, -1):
                self.assertEqual([twice_number((p, q, 0)), back_number((p, q, 1))], [4, p * p - 2 * p + 5])

    def test_the_shares_are_those_of_the_areas(self):
        for turn in GREAT_TURNS:
            p, q = turn[0], abs(turn[1])
            c = size_of(turn)
            h = Fraction(c - 1, 2)
            bare, back = Fraction((2 * q * (p - q)) ** 2, c * c), 4 * h * h / (p * (p + q)) / c
            near = Fraction(1, 10 ** 13)
            self.assertLess(abs(Fraction(*bare_share(turn)) - bare), near)
            self.assertLess(abs(Fraction(back_number(turn), c) - back), near)

    def test_the_opposite_angle_and_quarters_change_nothing(self):
        for p, q, _ in GREAT_TURNS + GREAT_NARROW + small_turns(9, [0]):
            found = {tuple(function((p, side, k)) for function in OF_A_TURN) for side in (q, -q) for k in range(4)}
            self.assertEqual(len(found), 1, (p, q))


class KeepingNumber(unittest.TestCase):
    def test_by_trying(self):
        turns = [turn for turn in small_turns(24) if turn[0] == abs(turn[1]) + 1]
        for number in range(24 * 24 + 1):
            self.assertEqual(called(keeping_number, number), sum(size_of(turn) <= number for turn in turns), number)

    def test_just_at_the_next_turn(self):
        for k in [1, 2, 3, 10, 999, 10 ** 15 - 1, 10 ** 15, 10 ** 22, 5 * 10 ** 21 + 3, 2 * 10 ** 22 + 1, 7 * 10 ** 48]:
            number = 2 * k * k + 2 * k + 1
            found = [called(keeping_number, number + more) for more in (-2, -1, 0, 1, 2)]
            self.assertEqual(found, [8 * k - 4] * 2 + [8 * k + 4] * 3, k)

    def test_numbers_of_45_digits_and_more(self):
        for number in (10 ** 44, 10 ** 45 - 1, 123456789012345678901234567890123456789012345, HUGE, 10 ** 100 - 1):
            found = called(keeping_number, number)
            k = (found - 4) // 8
            self.assertEqual(found, 8 * k + 4)
            self.assertTrue(2 * k * k + 2 * k + 1 <= number < 2 * (k + 1) * (k + 1) + 2 * (k + 1) + 1)

    def test_first_numbers(self):
        self.assertEqual([keeping_number(number) for number in range(7)], [0, 4, 4, 4, 4, 12, 12])

    def test_wrong_numbers(self):
        for value in NO_NUMBERS:
            self.assertRaises(InvalidNumber, keeping_number, value)
            self.assertRaises(InvalidNumber, keeping_number, number=value)


class WrongTurns(unittest.TestCase):
    def test_each_function(self):
        for function in OF_A_TURN:
            for value in WRONG_TURNS:
                self.assertRaises(InvalidTurn, function, value)
                self.assertRaises(InvalidTurn, function, turn=value)


if __name__ == "__main__":
    unittest.main()
