"""[27], against the functions and a canvas."""

import random
import unittest

from tests.samples import ANY_VALUES, GREAT_TURNS, PICTURE, called, drawn_turns, raised_by, small_turns
from turnedpixels.canvas import Canvas
from turnedpixels.console import Console
from turnedpixels.errors import InvalidCommand, NothingToUndo, TooLarge
from turnedpixels.losses import back_number, keeps_all, twice_number
from turnedpixels.misses import mean_miss
from turnedpixels.pictures import lost_number
from turnedpixels.sources import came_from
from turnedpixels.texts import format_picture, format_pixel, format_turn
from turnedpixels.turns import image

LONG = "1234567890" * 4 + "12345"
# The words that each command takes.
FORMS = {
    "show": [], "put": ["pixel"], "take": ["pixel"], "turn": ["turn"], "shear": ["turn", "order"], "undo": [],
    "keeps": ["turn"], "twice": ["turn"], "back": ["turn"], "mean": ["turn"], "image": ["turn", "pixel"],
    "from": ["turn", "pixel"], "lost": ["turn"],
}
GOOD_WORDS = {"pixel": "4,0", "turn": "4/1/0", "order": "xyx"}
WRONG_WORDS = {
    "pixel": ["", "4", "4,", ",0", "4,0,0", "4;0", "04,0", "4,-0", "+4,0", "4/0", f"{LONG}0,0", "none", "x"],
    "turn": ["", "4", "4/1", "4/1/", "4/1/0/0", "4/2/0", "3/1/0", "4/1/4", "4/1/-1", "4,1,0", "0/1/0", "04/1/0",
             "1000000000000001/2/0", "none", "4/-0/1"],
    "order": ["", "xy", "XYX", "xyxy", "yx", "xyz", "xyx,yxy", "none"],
}


def texts_of(kind):
    """All commands of a name with one wrong word."""
    good = [GOOD_WORDS[name] for name in FORMS[kind]]
    for at, name in enumerate(FORMS[kind]):
        for word in WRONG_WORDS[name]:
            yield " ".join([kind] + good[:at] + [word] + good[at + 1:])
            yield " ".join([kind] + good[:at] + [word] + ["?"] * (len(good) - at - 1))


class Commands(unittest.TestCase):
    def run_all(self, desk, pairs):
        for command, answer in pairs:
            self.assertEqual(desk.execute(command), answer, command)

    def test_a_desk(self):
        self.run_all(Console(), [
            ("show", "none"), ("new 4,0 5,0", "ok"), ("lost 4/1/0", "1"), ("turn 4/1/0", "1"), ("show", "4,2"),
            ("undo", "ok"), ("show", "4,0 5,0"), ("put 0,0", "3"), ("put 0,0", "3"), ("take 5,0", "2"),
            ("take 5,0", "2"), ("show", "0,0 4,0"), ("shear 2/1/0 xyx", "2"), ("show", "0,0 3,3"),
            ("undo", "ok"), ("undo", "ok"), ("undo", "ok"), ("show", "0,0 4,0 5,0"), ("undo", "ok"), ("undo", "ok"),
            ("show", "4,0 5,0"), ("new", "ok"), ("show", "none"), ("lost 4/1/0", "0"), ("turn 4/1/0", "0"),
            ("put -5,7", "1"), ("show", "-5,7"), ("take -5,7", "0"), ("show", "none"), ("undo", "ok"), ("show", "-5,7"),
            ("new -1,0 0,0 0,5", "ok"), ("show", "-1,0 0,0 0,5"), ("take 7,7", "3"), ("undo", "ok"),
        ])

    def test_questions(self):
        self.run_all(Console(), [
            ("keeps 4/1/0", "no"), ("keeps 2/1/3", "yes"), ("keeps 2/-1/0", "yes"), ("twice 4/1/0", "4"),
            ("twice 2/1/0", "0"), ("back 4/1/0", "13"), ("mean 4/1/0", "48/289"), ("mean 1/0/0", "0/1"),
            ("image 4/1/0 5,0", "4,2"), ("from 4/1/0 4,2", "4,0 5,0"), ("from 4/1/0 3,2", "none"),
            ("from 2/1/1 -1,1", "1,0"), (f"image 1/0/2 {LONG},-{LONG}", f"-{LONG},{LONG}"), ("lost 2/1/0", "0"),
        ])

    def test_questions_about_many_turns(self):
        desk = Console()
        for turn in small_turns(5) + GREAT_TURNS + drawn_turns(20, 10, 10 ** 9):
            text = format_turn(turn)
            self.assertEqual(called(desk.execute, f"keeps {text}"), "yes" if keeps_all(turn) else "no")
            self.assertEqual(called(desk.execute, f"twice {text}"), str(twice_number(turn)))
            self.assertEqual(called(desk.execute, f"back {text}"), str(back_number(turn)))
            self.assertEqual(called(desk.execute, f"mean {text}"), "{}/{}".format(*mean_miss(turn)))
            for pixel in [(0, 0), (3, 2), (-4, 7), (4, 2), (10 ** 44, -int(LONG))]:
                word = format_pixel(pixel)
                self.assertEqual(called(desk.execute, f"image {text} {word}"), format_pixel(image(turn, pixel)))
                self.assertEqual(called(desk.execute, f"from {text} {word}"), format_picture(came_from(turn, pixel)) or "none")

    def test_by_a_canvas(self):
        for number in range(30):
            chance = random.Random(number)
            desk, canvas = Console(), Canvas([])
            for _ in range(40):
                turn = chance.choice(small_turns(5))
                pixel = (chance.randint(-2, 3), chance.randint(-2, 3))
                name = chance.choice(["put", "put", "put", "take", "turn", "shear", "undo", "lost", "new"])
                text, word = format_turn(turn), format_pixel(pixel)
                if name == "new":
                    pixels = sorted({(chance.randint(-2, 3), chance.randint(-2, 3)) for _ in range(number % 7)})
                    self.assertEqual(desk.execute(("new " + format_picture(pixels)).strip()), "ok")
                    canvas = Canvas(pixels)
                elif name in ("put", "take"):
                    self.assertEqual(desk.execute(f"{name} {word}"), str(getattr(canvas, name)(pixel)))
                elif name == "turn":
                    self.assertEqual(desk.execute(f"turn {text}"), str(canvas.turn(turn)))
                elif name == "shear":
                    order = chance.choice(["xyx", "yxy"])
                    self.assertEqual(desk.execute(f"shear {text} {order}"), str(canvas.shear(turn, order)))
                elif name == "lost":
                    self.assertEqual(desk.execute(f"lost {text}"), str(lost_number(turn, canvas.pixels)))
                elif canvas.deeds:
                    self.assertEqual((desk.execute("undo"), canvas.undo()), ("ok", None))
                else:
                    self.assertIs(type(raised_by(desk.execute, "undo")), NothingToUndo)
                self.assertEqual(desk.execute("show"), format_picture(canvas.pixels) or "none")

    def test_two_consoles(self):
        one, other = Console(), Console()
        one.execute("put 1,1")
        self.assertEqual([one.execute("show"), other.execute("show")], ["1,1", "none"])
        self.assertIs(type(raised_by(other.execute, "undo")), NothingToUndo)

    def test_what_is_new_has_nothing_to_undo(self):
        desk = Console()
        for command in ("new 4,0 5,0", "new"):
            desk.execute("put 9,9")
            self.assertEqual(desk.execute(command), "ok")
            self.assertIs(type(raised_by(desk.execute, "undo")), NothingToUndo)

    def test_400_pixels(self):
        desk = Console()
        words = [f"0,{x}" for x in range(400)]
        self.run_all(desk, [("new " + " ".join(words), "ok"), ("show", " ".join(words)), ("put 0,5", "400")])
        found = raised_by(desk.execute, "put 1,1")
        self.assertEqual((type(found), found.limit), (TooLarge, 400))
        self.assertIs(type(raised_by(desk.execute, "new " + " ".join(words + ["0,400"]))), InvalidCommand)
        self.run_all(desk, [("show", " ".join(words)), ("take 0,5", "399"), ("put 1,1", "400")])


class WrongCommands(unittest.TestCase):
    def setUp(self):
        self.desk = Console()
        self.desk.execute("new " + format_picture(PICTURE))
        self.desk.execute("put 9,9")
        self.shown = self.desk.execute("show")

    def check(self, command):
        for found in (raised_by(self.desk.execute, command), raised_by(self.desk.execute, command=command)):
            self.assertIs(type(found), InvalidCommand, command)
        self.assertEqual(self.desk.execute("show"), self.shown)

    def tearDown(self):
        # No wrong command was a deed.
        self.assertEqual((self.desk.execute("undo"), self.desk.execute("show")), ("ok", format_picture(PICTURE)))
        self.assertIs(type(raised_by(self.desk.execute, "undo")), NothingToUndo)

    def test_no_strings(self):
        for value in ANY_VALUES + [["show"], ("show",), {"show": 1}]:
            self.check(value)

    def test_other_words(self):
        for command in ["", " ", "  ", "help", "Show", "SHOW", "shows", "sho", "?", "new,", "walk 2/1/0", "pixels", "none",
                        "joined 2/1/0 2/1/0", "show\t", "undo\n", "news", "4,0", "4/1/0", "xyx", "execute show"]:
            self.check(command)

    def test_spaces_too_many(self):
        for name, kinds in FORMS.items():
            good = " ".join([name] + [GOOD_WORDS[kind] for kind in kinds])
            for command in (" " + good, good + " ", good + "  ", good.replace(" ", "  ")):
                if command != good:
                    self.check(command)
        for command in (" new", "new ", "new  ", "new  4,0", "new 4,0 ", "new 4,0  5,0", " new 4,0"):
            self.check(command)

    def test_words_too_many_or_too_few(self):
        for name, kinds in FORMS.items():
            words = [name] + [GOOD_WORDS[kind] for kind in kinds]
            for number in range(1, len(words)):
                self.check(" ".join(words[:number]))
            for word in ("", "4,0", "4/1/0", "xyx", "?", name):
                self.check(" ".join(words + [word]))

    def test_wrong_words(self):
        for name in FORMS:
            for command in texts_of(name):
                self.check(command)

    def test_words_in_another_order(self):
        for command in ("image 4,0 4/1/0", "from 4,2 4/1/0", "shear xyx 4/1/0", "4/1/0 turn", "put 4/1/0", "turn 4,0"):
            self.check(command)

    def test_wrong_pictures(self):
        for words in ("4", "x", "5,0 4,0", "4,0 4,0", "4,0 x", "4,0 5,0,1", "none", "4,0 5,00", f"{LONG}0,1", "-0,1"):
            self.check(f"new {words}")
        self.check("new " + " ".join(f"0,{x}" for x in range(401)))

    def test_invalid_command_is_ahead_of_all_others(self):
        full = " ".join(f"0,{x}" for x in range(400))
        desk = Console()
        for command in ("undo ", "undo 1,1", " undo"):
            self.assertIs(type(raised_by(desk.execute, command)), InvalidCommand)
        desk.execute("new " + full)
        for command in ("put 1,1 ", "put 1,1 2,2", "put 01,1"):
            self.assertIs(type(raised_by(desk.execute, command)), InvalidCommand)
        self.assertIs(type(raised_by(desk.execute, "put 1,1")), TooLarge)

    def test_an_error_changes_nothing(self):
        desk = Console()
        self.assertIs(type(raised_by(desk.execute, "undo")), NothingToUndo)
        desk.execute("new " + " ".join(f"0,{x}" for x in range(400)))
        self.assertIs(type(raised_by(desk.execute, "put 1,1")), TooLarge)
        self.assertIs(type(raised_by(desk.execute, "new 1,1 0,0")), InvalidCommand)
        self.assertEqual(len(desk.execute("show").split(" ")), 400)
        self.assertIs(type(raised_by(desk.execute, "undo")), NothingToUndo)


if __name__ == "__main__":
    unittest.main()
