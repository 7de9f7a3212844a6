"""[26], against texts that are put together and taken apart by regular expressions."""

import random
import re
import unittest

from tests.samples import (
    ANY_VALUES, GREAT_PIXELS, GREAT_TURNS, HUGE, NO_TURNS, PICTURE, STEPS, called, check_wrong, drawn_turns, raised_by,
    small_pixels, small_turns,
)
from turnedpixels.chains import after_chain
from turnedpixels.errors import InvalidText
from turnedpixels.texts import (
    format_chain, format_picture, format_pixel, format_turn, parse_chain, parse_picture, parse_pixel, parse_turn,
)

PARSERS = [parse_pixel, parse_picture, parse_turn, parse_chain]
NUMBER = "(0|-?[1-9][0-9]{0,44})"
LONG = "1234567890" * 4 + "12345"
NUMBERS = [
    0, 1, -1, 9, 10, -10, 101, int(LONG), -int(LONG), 10 ** 44, 10 ** 45 - 1, 1 - 10 ** 45, -(10 ** 44), 10 ** 30, 5000,
]
NO_NUMBERS = [
    "", "-", "--1", "+1", "-0", "00", "01", "-01", "007", "1-", "1 ", "a", "1a", "0x1", "1e5", "1_0", "1.0", "1.", ".5",
    "None", "True", LONG + "6", "-" + LONG + "6", "1" + "0" * 45, "0" * 45, "- 1", "1\t", "\t1", "1\n", "(1)", "'1'",
    "9" * 3000, "0-", "-0-", "1--1", "=1", "~1", "!", "x",
]
NO_PIXEL_WORDS = [
    "", ",", "1", "1,", ",1", "1,2,3", "1,2,", ",1,2", "1;2", "1/2", "(1,2)", "1.2", "1,,2", "x1,2", "1,2x", "-,2", "1,-0",
    "1\t,2", "1,\n2", "none",
] + [f"{word},2" for word in NO_NUMBERS if " " not in word] + [f"5,{word}" for word in NO_NUMBERS if " " not in word]
NO_TURN_WORDS = [
    "", "/", "//", "2", "2/1", "2/1/", "/1/0", "2//0", "2/1/0/0", "2/1/0/", "2,1,0", "2/1,0", "(2/1/0)",
    "02/1/0", "2/01/0", "2/1/00", "2/1/-0", "2/-0/1", "+2/1/0", "2/+1/0", "x2/1/0", "2/1/0x", "2/1/1.0",
] + [f"{word}/1/0" for word in NO_NUMBERS if " " not in word] + [
    f"{p}/{q}/{k}" for p, q, k in NO_TURNS
]
NO_STEP_WORDS = [
    "", "x", "y", "x/", "x1", "x1/", "x/2", "1/2", "z1/2", "X1/2", "xx1/2", "xy1/2", "x1/2/3", "x1/2/", "x1,2", "-x1/2",
    "x1/0", "y1/0", "x0/0", "x1/-1", "y3/-2", "x1/-0", "x1/02", "x01/2", "y-0/1", "x+1/2", "x1/2x", "x(1)/2", "x1//2",
] + [f"x{word}/2" for word in NO_NUMBERS if " " not in word] + [f"y2/{word}" for word in NO_NUMBERS if " " not in word]
GOOD_STEPS = ["x1/2", "y-3/4", "x0/1", "y0/7", f"x-{LONG}/{LONG}", "y6/4", f"x5/{LONG}"]


class Formats(unittest.TestCase):
    def test_pixels(self):
        for x in NUMBERS + [HUGE, -HUGE]:
            for y in NUMBERS + [HUGE]:
                self.assertEqual(called(format_pixel, (x, y)), f"{x},{y}")

    def test_pictures(self):
        for pixels in [[], [(0, 0)], PICTURE, sorted(GREAT_PIXELS), [(x, -x) for x in range(400)]]:
            self.assertEqual(called(format_picture, pixels), " ".join(f"{x},{y}" for x, y in pixels))
        self.assertEqual([format_picture([]), format_picture([(-1, 0), (0, 5)])], ["", "-1,0 0,5"])

    def test_turns(self):
        for turn in small_turns(9) + GREAT_TURNS + drawn_turns(20, 10, 10 ** 15):
            self.assertEqual(called(format_turn, turn), "/".join(map(str, turn)))

    def test_chains(self):
        for chain in [[], STEPS, [("y", 0, 1)] * 8, [("x", HUGE, 10 ** 99), ("y", -HUGE, 1)]]:
            self.assertEqual(called(format_chain, chain), " ".join(f"{axis}{n}/{d}" for axis, n, d in chain))
        self.assertEqual(format_chain([("x", -1, 2), ("y", 4, 5)]), "x-1/2 y4/5")

    def test_numbers_of_thousands_of_digits(self):
        pixel = (10 ** 99 + 1, -(10 ** 99))
        for _ in range(7):
            pixel = after_chain([("x", HUGE, 1), ("y", -HUGE, 1)] * 4, pixel)
        found = format_pixel(pixel)
        self.assertGreater(len(found), 9000)
        for number, text in zip(pixel, found.split(",")):
            sign, digits = (-1, text[1:]) if text[0] == "-" else (1, text)
            self.assertTrue(re.fullmatch("[1-9][0-9]*", digits))
            value = 0
            for at in range(0, len(digits), 40):
                part = digits[at:at + 40]
                value = value * 10 ** len(part) + int(part)
            self.assertEqual(sign * value, number)
        self.assertEqual(format_picture([pixel]), found)
        self.assertEqual(format_pixel((10 ** 5000, -(10 ** 5000))), f"1{'0' * 5000},-1{'0' * 5000}")
        self.assertEqual(format_chain([("x", 10 ** 4500 + 5, 10 ** 4400)]), f"x1{'0' * 4499}5/1{'0' * 4400}")

    def test_about_the_parts_of_numbers(self):
        for digits in (59, 60, 61, 119, 120, 121, 180):
            for more in (-1, 0, 1):
                number = 10 ** digits + more
                self.assertEqual(format_pixel((number, -number)), f"{number},{-number}")

    def test_wrong_arguments(self):
        for function in (format_pixel, format_picture, format_turn, format_chain):
            check_wrong(function)


class ThereAndBack(unittest.TestCase):
    def test_pixels(self):
        for x in NUMBERS:
            for y in NUMBERS:
                self.assertEqual(called(parse_pixel, f"{x},{y}"), (x, y))
                self.assertEqual(parse_pixel(format_pixel((x, y))), (x, y))

    def test_pictures(self):
        for pixels in [[], [(0, 0)], PICTURE, small_pixels(9), [(0, x) for x in range(400)],
                       sorted((x, y) for x in NUMBERS for y in NUMBERS[:5])]:
            text = " ".join(f"{x},{y}" for x, y in pixels)
            self.assertEqual(called(parse_picture, text), pixels)
            self.assertEqual(format_picture(parse_picture(text)), text)

    def test_turns(self):
        for turn in small_turns(9) + GREAT_TURNS + drawn_turns(20, 10, 10 ** 15):
            self.assertEqual(called(parse_turn, "/".join(map(str, turn))), turn)
            self.assertEqual(parse_turn(format_turn(turn)), turn)

    def test_chains(self):
        for number in range(9):
            chance = random.Random(number)
            words = [chance.choice(GOOD_STEPS) for _ in range(number)]
            chain = called(parse_chain, " ".join(words))
            self.assertEqual(chain, [(word[0], *map(int, word[1:].split("/"))) for word in words])
            self.assertEqual(format_chain(chain), " ".join(words))
        self.assertEqual(parse_chain(format_chain(STEPS)), STEPS)

    def test_each_list_is_new(self):
        for parse, text in [(parse_picture, ""), (parse_picture, "0,0"), (parse_chain, ""), (parse_chain, "x1/2")]:
            kept = list(parse(text))
            parse(text).append("more")
            self.assertEqual(parse(text), kept)

    def test_kinds(self):
        self.assertEqual([type(parse_pixel("1,2")), type(parse_turn("2/1/0")), type(parse_chain("x1/2")[0]),
                          type(parse_picture("1,2")[0])], [tuple] * 4)


class WrongTexts(unittest.TestCase):
    def check(self, parse, text, place):
        for found in (raised_by(parse, text), raised_by(parse, text=text)):
            self.assertIs(type(found), InvalidText, text)
            self.assertEqual((found.place, type(found.place)), (place, type(place)), (parse, text))

    def test_no_strings(self):
        for parse in PARSERS:
            for value in ANY_VALUES:
                if not isinstance(value, str):
                    self.check(parse, value, None)

    def test_the_empty_string(self):
        self.assertEqual([parse_picture(""), parse_chain("")], [[], []])
        self.check(parse_pixel, "", 0)
        self.check(parse_turn, "", 0)

    def test_spaces(self):
        for parse, word in [(parse_pixel, "1,2"), (parse_picture, "1,2"), (parse_turn, "2/1/0"), (parse_chain, "x1/2")]:
            parse(word)
            for text, place in [(" ", 0), ("  ", 0), (" " + word, 0), (word + " ", 1), (word + "  ", 1), ("  " + word, 0)]:
                self.check(parse, text, place)
        self.check(parse_picture, "1,2  3,4", 1)
        self.check(parse_picture, "1,2 3,4 ", 2)
        self.check(parse_chain, "x1/2  y1/2", 1)
        self.check(parse_chain, "x1/2 y1/2 ", 2)

    def test_second_words(self):
        for parse, word in [(parse_pixel, "1,2"), (parse_turn, "2/1/0")]:
            for second in (word, "", "x", "1,2", "3,4", "2/1/0", "0"):
                for more in ("", " ", " " + word):
                    self.check(parse, f"{word} {second}{more}", 1)
                    self.check(parse, f"? {second}{more}", 0)

    def test_each_kind_of_wrong_word(self):
        for word in NO_PIXEL_WORDS:
            self.check(parse_pixel, word, 0)
            self.check(parse_pixel, word + " 1,2", 0)
            if word:
                self.check(parse_picture, word, 0)
            self.check(parse_picture, f"1,2 {word}", 1)
            self.check(parse_picture, f"-9,0 0,0 {word} ? 0,0", 2)
        for word in NO_TURN_WORDS:
            self.check(parse_turn, word, 0)
            self.check(parse_turn, word + " 2/1/0", 0)
        for word in NO_STEP_WORDS:
            if word:
                self.check(parse_chain, word, 0)
            for number in (1, 3, 7):
                self.check(parse_chain, " ".join(GOOD_STEPS[:1] * number + [word]), number)
            self.check(parse_chain, f"x1/2 {word} ? x1/2", 1)

    def test_words_by_regular_expressions(self):
        chance = random.Random(26)
        seen = []
        for _ in range(6000):
            text = "".join(chance.choice("-012,") for _ in range(chance.randint(1, 6)))
            found = re.fullmatch(f"{NUMBER},{NUMBER}", text)
            seen.append(found is None)
            if found:
                self.assertEqual(parse_pixel(text), tuple(map(int, text.split(","))))
                self.assertEqual(parse_picture(text), [parse_pixel(text)])
            else:
                self.check(parse_pixel, text, 0)
            text = "x" + text.replace(",", "/")
            if re.fullmatch(f"x{NUMBER}/[1-9][0-9]*", text):
                self.assertEqual(parse_chain(text), [("x", *map(int, text[1:].split("/")))])
            else:
                self.check(parse_chain, text, 0)
        self.assertGreater(seen.count(False), 200)

    def test_pixels_that_do_not_come_behind(self):
        self.check(parse_picture, "0,5 -1,0", 1)
        self.check(parse_picture, "0,5 0,5", 1)
        self.check(parse_picture, "0,5 0,4", 1)
        self.check(parse_picture, "0,5 1,0 2,0 1,9 x", 3)
        self.check(parse_picture, "-1,0 -2,0", 1)
        for first in small_pixels(2):
            for second in small_pixels(2):
                text = f"{first[0]},{first[1]} {second[0]},{second[1]}"
                if first < second:
                    self.assertEqual(parse_picture(text), [first, second])
                else:
                    self.check(parse_picture, text, 1)

    def test_the_401st_pixel_and_the_9th_step(self):
        words = [f"0,{x}" for x in range(400)]
        self.assertEqual(len(parse_picture(" ".join(words))), 400)
        for more in (["0,400"], ["x"], [""], ["0,0"], ["0,400", "0,401"]):
            self.check(parse_picture, " ".join(words + more), 400)
        self.check(parse_picture, " ".join(words[:399] + ["0,0", "0,400"]), 399)
        self.check(parse_picture, " ".join(words[:7] + ["x"] + words[7:] + ["0,400"]), 7)
        for more in (["x1/2"], ["?"], [""], ["y1/2"] * 50):
            self.check(parse_chain, " ".join(["x1/2"] * 8 + more), 8)
        self.check(parse_chain, " ".join(["x1/2"] * 7 + ["x1/0", "x1/2"]), 7)

    def test_numbers_of_46_digits(self):
        self.assertEqual(parse_pixel(f"{LONG},-{LONG}"), (int(LONG), -int(LONG)))
        for text in (f"{LONG}0,1", f"1,{LONG}0", f"-{LONG}0,1", f"1,-{LONG}0"):
            self.check(parse_pixel, text, 0)
            self.check(parse_picture, f"-{LONG},0 {text}", 1)
        self.check(parse_chain, f"x{LONG}0/1", 0)
        self.check(parse_chain, f"x1/1 x1/{LONG}0", 1)

    def test_numbers_that_are_no_turn(self):
        for text in ("2/0/0", "3/1/0", "2/2/0", "2/1/4", "2/1/-1", "0/1/0", "-2/1/0", "6/3/0", "1000000000000001/2/0"):
            self.check(parse_turn, text, 0)
        self.assertEqual(parse_turn("1000000000000000/-1/3"), (10 ** 15, -1, 3))


if __name__ == "__main__":
    unittest.main()
