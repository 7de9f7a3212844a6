"""[15] and [16], against a search of the pixels that could have an image."""

import unittest

from tests.samples import (
    ANY_VALUES, GREAT_KEEPING, GREAT_NARROW, GREAT_PIXELS, GREAT_TURNS, HUGE, LIMIT, NO_PIXELS, WRONG_TURNS, called,
    plain_back, plain_image, small_pixels, small_turns, sources_by_search, wrong_calls,
)
from turnedpixels.errors import InvalidPixel, InvalidTurn, KeepsAll, TooLarge
from turnedpixels.sources import a_loss, came_from, comes_back, is_bare, meeting, next_bare, shows_loss

FAR_PIXELS = [
    (10 ** 43 + 7, -(10 ** 43) * 9), (-12345678901234567890123456789012345678901234, 7 * 10 ** 43 + 1),
    (3, 98765432109876543210987654321098765432109876), (-(10 ** 44) + 1, 0),
]
WITH_LOSS = [turn for turn in GREAT_TURNS + GREAT_NARROW if turn[0] != abs(turn[1]) + 1]


def size_of(turn):
    return turn[0] * turn[0] + turn[1] * turn[1]


def keeps(turn):
    return turn[0] == abs(turn[1]) + 1


def about(pixel, reach):
    return [(pixel[0] + x, pixel[1] + y) for x, y in small_pixels(reach)]


def is_loss(turn, value):
    """Whether a value is a loss by the definition."""
    def pixel(part):
        return type(part) is tuple and len(part) == 2 and all(type(number) is int for number in part)

    if type(value) is not tuple or len(value) not in (2, 3) or not all(pixel(part) for part in value[1:]):
        return False
    if len(value) == 2:
        return value[0] == "bare" and sources_by_search(turn, value[1]) == []
    one, other = value[1:]
    return value[0] == "meet" and one < other and plain_image(turn, one) == plain_image(turn, other)


class Sources(unittest.TestCase):
    def check(self, turn, pixel):
        told = (turn, pixel)
        sources = sources_by_search(turn, pixel)
        self.assertEqual(called(came_from, turn, pixel), sources, told)
        self.assertIs(called(is_bare, turn, pixel), sources == [], told)
        found = plain_image(turn, pixel)
        self.assertIs(called(comes_back, turn, pixel), plain_image(plain_back(turn), found) == pixel, told)
        mates = [mate for mate in sources_by_search(turn, found) if mate != pixel]
        self.assertLessEqual(len(mates), 1)
        self.assertEqual(called(meeting, turn, pixel), mates[0] if mates else None, told)

    def test_near_the_middle(self):
        for turn in small_turns(6):
            for pixel in small_pixels(4):
                self.check(turn, pixel)

    def test_turns_to_30(self):
        for turn in small_turns(30, [0]):
            p, q, _ = turn
            for at, pixel in enumerate([(0, 0), (p, 3), (-5, q)] + FAR_PIXELS):
                self.check((p, q, (p + at) % 4), pixel)

    def test_a_whole_row(self):
        for turn in [(4, 1, 1), (7, 2, 2), (9, 4, 3), (12, -5, 0), (13, 6, 1), (13, -12, 2)]:
            for x in range(size_of(turn)):
                self.check(turn, (x - 20, 9))

    def test_pixels_of_44_digits(self):
        for turn in small_turns(4):
            for pixel in FAR_PIXELS:
                for near in about(pixel, 2):
                    self.check(turn, near)

    def test_great_turns(self):
        for turn in GREAT_TURNS + GREAT_NARROW:
            for pixel in FAR_PIXELS + GREAT_PIXELS + small_pixels(1):
                self.check(turn, pixel)

    def test_great_turns_where_something_is_lost(self):
        seen = []
        for turn in WITH_LOSS:
            for start in [(0, 0), FAR_PIXELS[0]]:
                _, bare = a_loss(turn)
                # A multiple of p + q i added leads bare pixels to bare ones: the sources move by one of p - q i.
                p, q, _ = turn
                bare = (bare[0] + p * start[0] - q * start[1], bare[1] + q * start[0] + p * start[1])
                for pixel in about(bare, 2):
                    self.check(turn, pixel)
                    for source in sources_by_search(turn, pixel):
                        self.check(turn, source)
                    seen.append(len(sources_by_search(turn, pixel)))
        self.assertTrue(min(seen.count(number) for number in range(3)) > 10)

    def test_great_turns_that_keep_all(self):
        for turn in GREAT_KEEPING:
            for pixel in FAR_PIXELS + small_pixels(2):
                self.assertEqual(came_from(turn, plain_image(turn, pixel)), [pixel])
                self.assertEqual((is_bare(turn, pixel), comes_back(turn, pixel), meeting(turn, pixel)),
                                 (False, True, None))

    def test_who_meets_is_met(self):
        seen = 0
        for turn in small_turns(12):
            for pixel in small_pixels(3):
                mate = meeting(turn, pixel)
                if mate is not None:
                    seen += 1
                    self.assertEqual(meeting(turn, mate), pixel)
                    self.assertEqual(abs(mate[0] - pixel[0]) + abs(mate[1] - pixel[1]), 1)
                    self.assertEqual(sorted([comes_back(turn, pixel), comes_back(turn, mate)]), [False, True])
        self.assertGreater(seen, 100)

    def test_what_was_returned_can_be_passed_back(self):
        for turn in GREAT_TURNS:
            pixel = (10 ** 140 + 1, -(10 ** 150))
            self.check(turn, pixel)
            for source in came_from(turn, pixel):
                self.check(turn, source)

    def test_wrong_arguments(self):
        kinds = [InvalidTurn, InvalidPixel]
        for function in (came_from, is_bare, comes_back, meeting):
            for at, arguments in wrong_calls([(4, 1, 0), (3, 2)], [WRONG_TURNS, NO_PIXELS]):
                self.assertRaises(kinds[at], function, *arguments)
            self.assertRaises(InvalidTurn, function, pixel=[3], turn=(4, 2, 0))
            self.assertRaises(InvalidPixel, function, pixel=[3], turn=(4, 1, 0))


class NextBare(unittest.TestCase):
    def search(self, turn, pixel):
        x, y = pixel
        while sources_by_search(turn, (x, y)):
            x += 1
        return (x, y)

    def test_every_pixel_of_a_row(self):
        for turn in small_turns(10):
            if not keeps(turn):
                expected = None
                for x in range(2 * size_of(turn), -1, -1):
                    expected = (x, 3) if sources_by_search(turn, (x, 3)) == [] else expected
                    if x < size_of(turn):
                        self.assertEqual(next_bare(turn, (x, 3)), expected, (turn, x))

    def test_turns_to_30(self):
        for p, q, _ in small_turns(30, [0]):
            turn = (p, q, (p * p + q) % 4)
            if not keeps(turn):
                for pixel in [(0, 0), FAR_PIXELS[p % 4]]:
                    self.assertEqual(called(next_bare, turn, pixel), self.search(turn, pixel), (turn, pixel))

    def test_near_the_limit(self):
        for turn in [(34, 29, 0), (44, 1, 1), (44, -7, 2), (33, -28, 3), (37, 24, 0)]:
            self.assertLess(size_of(turn), 2000)
            for pixel in [(0, 0), (-700, 5), FAR_PIXELS[1]]:
                self.assertEqual(called(next_bare, turn, pixel), self.search(turn, pixel), (turn, pixel))

    def test_a_bare_pixel_is_its_own(self):
        for turn in [(4, 1, 0), (9, 4, 3), (30, -13, 1)]:
            found = next_bare(turn, (0, 0))
            self.assertEqual(next_bare(turn, found), found)
            self.assertGreater(next_bare(turn, (found[0] + 1, found[1])), found)

    def test_too_large(self):
        above = [(41, 18, 0), (41, -18, 3), (44, 9, 1), (45, 2, 0), (38, 25, 2)]
        self.assertEqual(min(size_of(turn) for turn in above), 2005)
        for turn in above + WITH_LOSS:
            for pixel in [(0, 0), FAR_PIXELS[0]]:
                with self.assertRaises(TooLarge) as caught:
                    next_bare(turn, pixel)
                self.assertEqual(caught.exception.limit, 2000)
            with self.assertRaises(TooLarge):
                next_bare(pixel=(3, 4), turn=turn)

    def test_keeps_all_is_told_first(self):
        keeping = [turn for turn in small_turns(40) if keeps(turn)]
        self.assertTrue(min(size_of(turn) for turn in keeping) == 1 and max(size_of(turn) for turn in keeping) > 2000)
        for turn in keeping + GREAT_KEEPING:
            self.assertRaises(KeepsAll, next_bare, turn, (0, 0))
            self.assertRaises(KeepsAll, next_bare, pixel=FAR_PIXELS[0], turn=turn)

    def test_wrong_arguments(self):
        kinds = [InvalidTurn, InvalidPixel]
        for good in [(4, 1, 0), (1, 0, 0), (33, 32, 1), (41, 18, 0)] + GREAT_KEEPING[:1] + WITH_LOSS[:1]:
            for at, arguments in wrong_calls([good, (3, 2)], [WRONG_TURNS, NO_PIXELS]):
                self.assertRaises(kinds[at], next_bare, *arguments)
        self.assertRaises(InvalidPixel, next_bare, pixel=None, turn=(1, 0, 0))


class Losses(unittest.TestCase):
    def test_a_loss_is_one(self):
        for turn in small_turns(30) + WITH_LOSS:
            if not keeps(turn):
                loss = called(a_loss, turn)
                self.assertTrue(is_loss(turn, loss), (turn, loss))
                self.assertIs(called(shows_loss, turn, loss), True)

    def test_turns_of_which_little_is_lost(self):
        for p in (10 ** 6, LIMIT - 2, LIMIT):
            for q in (1, -1, p - 3, 3 - p):
                for quarters in range(4):
                    loss = a_loss((p, q, quarters))
                    self.assertTrue(is_loss((p, q, quarters), loss), (p, q, quarters))

    def test_turns_that_keep_all(self):
        for turn in [turn for turn in small_turns(30) if keeps(turn)] + GREAT_KEEPING:
            self.assertRaises(KeepsAll, a_loss, turn)
            self.assertRaises(KeepsAll, a_loss, turn=turn)
            for value in [("bare", (0, 0)), ("bare", (3, 2)), ("meet", (0, 0), (1, 0)), ("meet", (4, 0), (5, 0))]:
                self.assertIs(shows_loss(turn, value), False)

    def test_all_values_about_the_middle(self):
        number = 0
        for turn in small_turns(7):
            for x, y in small_pixels(3):
                values = [("bare", (x, y))]
                for mate in about((x, y), 2):
                    values += [("meet", (x, y), mate), ("bare", (x, y), mate)]
                for value in values:
                    expected = is_loss(turn, value)
                    number += expected
                    self.assertIs(shows_loss(turn, value), expected, (turn, value))
        self.assertGreater(number, 100)

    def test_what_differs_in_one_thing(self):
        for turn in [turn for turn in small_turns(9) if not keeps(turn)] + WITH_LOSS:
            _, bare = a_loss(turn)
            twice = [pixel for pixel in about(bare, 12) if len(sources_by_search(turn, pixel)) == 2]
            values = [("bare", bare)] + [("meet", *sources_by_search(turn, pixel)) for pixel in twice[:2]]
            for value in values:
                self.assertIs(shows_loss(turn, value), True)
                for other in self.changed(value):
                    self.assertIs(shows_loss(turn, other), is_loss(turn, other), (turn, other))
                    self.assertFalse(is_loss(turn, other))

    def changed(self, value):
        """Values that differ from a loss in one thing and are none."""
        yield list(value)
        yield value + (0,)
        yield value + ((0, 0),)
        yield value[:-1]
        yield value[1:]
        yield (value[1:],)
        for word in ("meets", "Bare", "", "bar", None, 0, True, ["meet"], ("bare",)):
            yield (word,) + value[1:]
        yield ("meet" if value[0] == "bare" else "bare",) + value[1:]
        for at in range(1, len(value)):
            x, y = value[at]
            for part in ([x, y], (x, y, 0), (x,), (x, None), (str(x), y), (x, [y]), None, x, True, f"{x},{y}"):
                yield value[:at] + (part,) + value[at + 1:]
            # Next to a bare pixel is no other one, and three pixels never have one image.
            yield value[:at] + ((x, y + 1) if (x, y + 1) not in value else (x, y - 1),) + value[at + 1:]
        if len(value) == 3:
            yield (value[0], value[2], value[1])
            yield (value[0], value[1], value[1])
            yield (value[0], value[2], value[2])

    def test_true_and_false_are_no_numbers(self):
        found = [value for value in [("bare", (x, y)) for x in (0, 1) for y in range(-9, 10)]
                 if shows_loss((9, 4, 0), value)]
        self.assertTrue(found)
        for _, (x, y) in found:
            self.assertIs(shows_loss((9, 4, 0), ("bare", (bool(x), y))), False)

    def test_any_value(self):
        for turn in [(4, 1, 0), (3, 2, 1), (30, 13, 2), GREAT_TURNS[2]]:
            for value in WRONG_TURNS + NO_PIXELS + [("bare", part) for part in ANY_VALUES]:
                self.assertIs(called(shows_loss, turn, value), False)
            for part in ANY_VALUES:
                for value in [("meet", part, (4, 0)), ("meet", (4, 0), part), ("meet", part, part), (part, (3, 2)),
                              (part, (4, 0), (5, 0)), ["bare", part], {"bare": part}]:
                    self.assertIs(shows_loss(turn, value), False)

    def test_great_pixels(self):
        for pixel in [(HUGE, -HUGE), (10 ** 45, 3)]:
            for near in about(pixel, 2):
                value = ("bare", near)
                self.assertIs(shows_loss((12, 5, 3), value), is_loss((12, 5, 3), value))

    def test_wrong_turns(self):
        for turn in WRONG_TURNS:
            self.assertRaises(InvalidTurn, a_loss, turn)
            self.assertRaises(InvalidTurn, a_loss, turn=turn)
            for value in [("bare", (3, 2)), None, turn]:
                self.assertRaises(InvalidTurn, shows_loss, turn, value)
                self.assertRaises(InvalidTurn, shows_loss, value=value, turn=turn)


if __name__ == "__main__":
    unittest.main()
