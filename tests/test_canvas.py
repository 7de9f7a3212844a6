"""[24] and [25], against a model that does all deeds again from the start."""

import copy
import random
import unittest

from tests.samples import (
    ANY_VALUES, GREAT_PIXELS, GREAT_TURNS, INDEXES, KINDS, NO_PICTURES, PICTURE, WAY, WRONG, called, plain_image,
    raised_by, small_turns, wrong_calls,
)
from turnedpixels.canvas import Canvas, CountingCanvas, KeepingCanvas, KeepingCountingCanvas
from turnedpixels.console import Console
from turnedpixels.errors import (
    InvalidOrder, InvalidPixel, InvalidPixels, InvalidTurn, InvalidWay, Lost, NothingToUndo, TooLarge,
)
from turnedpixels.pictures import sheared_picture, walked_picture

CLASSES = [Canvas, KeepingCanvas, CountingCanvas, KeepingCountingCanvas]
KEEPING = [KeepingCanvas, KeepingCountingCanvas]
COUNTING = [CountingCanvas, KeepingCountingCanvas]
BLOCK = [(x, y) for x in range(6) for y in range(6)]
FULL = [(x, y) for x in range(20) for y in range(20)]
TURN = (4, 1, 0)
DEEDS = [("put", (9, 9)), ("take", (0, 0)), ("turn", (2, 1, 1)), ("shear", TURN, "yxy"), ("walk", WAY)]


def do(canvas, deed):
    return getattr(canvas, deed[0])(*deed[1:])


def done(pixels, deed):
    """The picture behind a deed."""
    name, *told = deed
    if name == "put":
        return sorted({*pixels, told[0]})
    if name == "take":
        return [pixel for pixel in pixels if pixel != told[0]]
    if name == "turn":
        return sorted({plain_image(told[0], pixel) for pixel in pixels})
    return sheared_picture(*told, pixels) if name == "shear" else walked_picture(*told, pixels)


class Model:
    """What a canvas has to tell, from the picture at first and the deeds."""

    def __init__(self, pixels):
        self.start, self.deeds = list(pixels), []

    def stages(self):
        found = [self.start]
        for deed in self.deeds:
            found.append(done(found[-1], deed))
        return found

    def lost(self):
        stages = self.stages()
        return sum(len(stages[at]) - len(stages[at + 1]) for at, deed in enumerate(self.deeds) if deed[0] == "turn")


def drawn_deed(chance):
    name = chance.choice(["put", "put", "take", "turn", "turn", "turn", "shear", "walk"])
    if name in ("put", "take"):
        return (name, (chance.randint(-2, 5), chance.randint(-2, 5)))
    turn = chance.choice(small_turns(6))
    if name == "turn":
        return (name, turn)
    if name == "shear":
        return (name, turn, chance.choice(["xyx", "yxy"]))
    return (name, [(k + 1, chance.choice([k, -k]), chance.randint(0, 3)) for k in
                   [chance.randint(0, 5) for _ in range(chance.randint(0, 3))]])


class WithAModel(unittest.TestCase):
    def hold(self, canvas, model):
        stages = model.stages()
        self.assertEqual((canvas.pixels, canvas.deeds, len(canvas)), (stages[-1], model.deeds, len(stages[-1])))
        lost = model.lost() if isinstance(canvas, CountingCanvas) else None
        self.assertEqual(canvas.described(), (stages[-1], len(model.deeds), lost))
        if lost is not None:
            self.assertEqual(canvas.lost, lost)

    def step(self, canvas, model, chance):
        """One changing call of a canvas; whether it was refused."""
        if chance.random() < 0.25:
            if model.deeds:
                self.assertIsNone(canvas.undo())
                model.deeds.pop()
            else:
                self.assertRaises(NothingToUndo, canvas.undo)
            return False
        deed = drawn_deed(chance)
        before = model.stages()[-1]
        after = done(before, deed)
        if deed[0] == "turn" and isinstance(canvas, KeepingCanvas) and len(after) < len(before):
            self.assertEqual(raised_by(do, canvas, deed).number, len(before) - len(after))
            return True
        self.assertEqual(do(canvas, deed), len(after))
        model.deeds.append(deed)
        return False

    def test_deeds_by_a_fixed_row_of_numbers(self):
        refused = 0
        for number in range(60):
            chance = random.Random(number)
            kind = CLASSES[number % 4]
            start = sorted({(chance.randint(-3, 3), chance.randint(-3, 3)) for _ in range(number)})
            canvas, model = kind(start), Model(start)
            others = []
            for _ in range(25):
                refused += self.step(canvas, model, chance)
                self.hold(canvas, model)
                if chance.random() < 0.1:
                    others.append((canvas.twin(), copy.deepcopy(model)))
                for other, its_model in others:
                    if chance.random() < 0.3:
                        self.step(other, its_model, chance)
                    self.hold(other, its_model)
            while model.deeds:
                canvas.undo()
                model.deeds.pop()
                self.hold(canvas, model)
            self.assertRaises(NothingToUndo, canvas.undo)
            self.assertEqual(canvas, kind(start))
        self.assertGreater(refused, 20)


class Deeds(unittest.TestCase):
    def test_answers_and_pixels(self):
        for kind in CLASSES:
            canvas = kind(PICTURE)
            self.assertEqual([canvas.put((9, 9)), canvas.put((9, 9)), canvas.put((0, 1)), canvas.take((3, 0)),
                              canvas.take((3, 0)), canvas.turn((2, 1, 0))], [5, 5, 6, 5, 5, 5])
            self.assertEqual(canvas.pixels, sorted(plain_image((2, 1, 0), pixel)
                                                   for pixel in [(-1, 0), (0, 1), (4, 0), (5, 0), (9, 9)]))
            self.assertEqual(canvas.deeds, [("put", (9, 9)), ("put", (9, 9)), ("put", (0, 1)), ("take", (3, 0)),
                                            ("take", (3, 0)), ("turn", (2, 1, 0))])
            self.assertEqual([canvas.shear(TURN, "xyx"), canvas.walk(WAY), canvas.walk([])], [5, 5, 5])
            self.assertEqual(canvas.deeds[6:], [("shear", TURN, "xyx"), ("walk", WAY), ("walk", [])])
            self.assertEqual([canvas.undo() for _ in range(9)], [None] * 9)
            self.assertEqual((canvas.pixels, canvas.deeds), (PICTURE, []))
            self.assertEqual(type(raised_by(canvas.undo)), NothingToUndo)

    def test_by_name(self):
        for kind in CLASSES:
            canvas = kind(pixels=[(0, 0), (1, 0)])
            self.assertEqual([canvas.put(pixel=(5, 5)), canvas.take(pixel=(0, 0)), canvas.turn(turn=(1, 0, 1)),
                              canvas.shear(order="yxy", turn=TURN), canvas.walk(way=WAY)], [3, 2, 2, 2, 2])

    def test_the_empty_canvas(self):
        for kind in CLASSES:
            canvas = kind([])
            self.assertEqual([canvas.turn(TURN), canvas.take((0, 0)), canvas.walk(WAY), canvas.shear(TURN, "xyx"),
                              canvas.put((0, 0)), len(canvas)], [0, 0, 0, 0, 1, 1])

    def test_great_pixels(self):
        canvas = Canvas(sorted(GREAT_PIXELS))
        self.assertEqual(canvas.turn(GREAT_TURNS[0]), len(GREAT_PIXELS))
        self.assertEqual(canvas.pixels, sorted(plain_image(GREAT_TURNS[0], pixel) for pixel in GREAT_PIXELS))

    def test_a_refused_deed_changes_nothing(self):
        for kind in CLASSES:
            canvas = kind(BLOCK)
            do(canvas, DEEDS[2])
            kept, pixels = canvas.twin(), canvas.pixels
            for call in (lambda: canvas.put(None), lambda: canvas.take(5), lambda: canvas.turn((4, 1, 4)),
                         lambda: canvas.shear(TURN, "yx"), lambda: canvas.walk([None]), lambda: canvas.walk([TURN])):
                raised_by(call)
                self.assertEqual((canvas, canvas.pixels, canvas.deeds), (kept, pixels, [("turn", (2, 1, 1))]))

    def test_just_400_pixels(self):
        for kind in CLASSES:
            canvas = kind(FULL)
            self.assertEqual([canvas.put((0, 0)), canvas.put((19, 19))], [400, 400])
            for pixel in [(20, 0), (-1, 5)]:
                found = raised_by(canvas.put, pixel)
                self.assertEqual((type(found), found.limit, len(canvas), len(canvas.deeds)), (TooLarge, 400, 400, 2))
                self.assertEqual(type(raised_by(canvas.put, list(pixel))), InvalidPixel)
            self.assertEqual([canvas.take((3, 3)), canvas.put((20, 0)), raised_by(canvas.put, (3, 3)).limit],
                             [399, 400, 400])

    def test_nothing_of_the_arguments_is_kept(self):
        for kind in CLASSES:
            pixels, way = [(0, 0), (1, 0)], list(WAY)
            canvas = kind(pixels)
            canvas.walk(way)
            pixels.clear()
            way.append((2, 1, 0))
            self.assertEqual(canvas.deeds, [("walk", WAY)])
            canvas.undo()
            self.assertEqual((canvas.pixels, canvas == kind([(0, 0), (1, 0)])), ([(0, 0), (1, 0)], True))

    def test_each_list_is_new(self):
        for kind in CLASSES:
            canvas = kind([(0, 0), (1, 0)])
            canvas.walk(WAY)
            kept = (canvas.pixels, canvas.deeds, len(canvas))
            canvas.pixels.append("more")
            canvas.described()[0].clear()
            canvas.deeds[0][1].append("more")
            canvas.deeds.clear()
            self.assertEqual((canvas.pixels, canvas.deeds, len(canvas)), kept)
            self.assertEqual(canvas.deeds, [("walk", WAY)])
            self.assertIs(type(canvas.deeds[0][1]), list)

    def test_a_hundred_deeds(self):
        canvas = CountingCanvas(FULL)
        for at in range(100):
            canvas.turn((2, 1, at % 4))
        self.assertEqual((len(canvas), canvas.lost, len(canvas.deeds)), (400, 0, 100))


class Twins(unittest.TestCase):
    def test_each_on_its_own(self):
        for kind in CLASSES:
            canvas = kind(BLOCK)
            for deed in DEEDS:
                do(canvas, deed)
            twin = canvas.twin()
            self.assertIs(type(twin), kind)
            self.assertEqual((twin, twin.pixels, twin.deeds), (canvas, canvas.pixels, canvas.deeds))
            self.assertEqual(twin.described(), canvas.described())
            kept = (canvas.pixels, canvas.deeds)
            twin.put((77, 77))
            self.assertEqual((canvas.pixels, canvas.deeds), kept)
            self.assertNotEqual(twin, canvas)
            for _ in range(6):
                twin.undo()
            self.assertEqual((twin.pixels, twin == kind(BLOCK), canvas.pixels), (BLOCK, True, kept[0]))
            kept = (twin.pixels, twin.deeds)
            canvas.undo()
            canvas.undo()
            canvas.take((1, 1))
            self.assertEqual((twin.pixels, twin.deeds), kept)
            self.assertEqual(canvas.deeds, DEEDS[:3] + [("take", (1, 1))])

    def test_twins_of_twins(self):
        canvas = KeepingCountingCanvas(PICTURE)
        canvas.put((8, 8))
        second = canvas.twin()
        second.put((9, 9))
        third = second.twin()
        third.undo()
        self.assertTrue(third == canvas and canvas == third and third != second)
        self.assertEqual([len(one) for one in (canvas, second, third)], [5, 6, 5])


class Equality(unittest.TestCase):
    def test_the_class_counts(self):
        for kind in CLASSES:
            for other in CLASSES:
                self.assertIs(kind(PICTURE) == other(PICTURE), kind is other)
                self.assertIs(kind(PICTURE) != other(PICTURE), kind is not other)
                self.assertIs(kind([]) == other([]), kind is other)

    def test_the_first_picture_counts(self):
        for kind in CLASSES:
            one, other = kind([(0, 0)]), kind([])
            self.assertTrue(one != other and not one == other)
            other.put((0, 0))
            # The same pixels, but made with another picture.
            self.assertTrue(one != other and not one == other)
            one.put((0, 0))
            self.assertEqual((one.pixels, one.deeds), (other.pixels, other.deeds))
            self.assertTrue(one != other)

    def test_the_deeds_count(self):
        for kind in CLASSES:
            for deed in DEEDS:
                one, other = kind(PICTURE), kind(PICTURE)
                self.assertTrue(one == other and not one != other)
                do(one, deed)
                self.assertTrue(one != other and not one == other)
                do(other, deed)
                self.assertTrue(one == other and not one != other)
                one.undo()
                self.assertTrue(one != other)
                self.assertTrue(one == kind(PICTURE))
            # Deeds that change nothing, and deeds that lead to one picture.
            one, other = kind([(0, 0)]), kind([(0, 0)])
            one.turn((2, 1, 0))
            other.turn((2, -1, 0))
            self.assertTrue(one.pixels == other.pixels and one != other)

    def test_nothing_else_is_equal(self):
        for kind in CLASSES:
            canvas = kind([(1, 2)])
            for value in [value for value in ANY_VALUES if value is not canvas] + [[(1, 2)], Console(), object(), kind]:
                self.assertIs(canvas == value, False)
                self.assertIs(canvas != value, True)
                self.assertIs(value == canvas, False)
            self.assertIs(canvas == canvas, True)


class Keeping(unittest.TestCase):
    def test_lost(self):
        for kind in KEEPING:
            canvas = kind([(4, 0), (5, 0)])
            canvas.put((0, 0))
            for call in (lambda: canvas.turn(TURN), lambda: canvas.turn(turn=TURN)):
                found = raised_by(call)
                self.assertEqual((type(found), found.number), (Lost, 1))
                self.assertEqual((canvas.pixels, canvas.deeds), ([(0, 0), (4, 0), (5, 0)], [("put", (0, 0))]))
            self.assertEqual([canvas.turn((2, 1, 0)), canvas.undo(), canvas.take((5, 0)), canvas.turn(TURN)], [3, None, 2, 2])

    def test_the_number_for_many_turns(self):
        for turn in small_turns(6) + [(29, 12, 1)]:
            number = len(FULL) - len({plain_image(turn, pixel) for pixel in FULL})
            for kind in CLASSES:
                canvas = kind(FULL)
                if kind in KEEPING and number > 0:
                    self.assertEqual(raised_by(canvas.turn, turn).number, number)
                    self.assertEqual((canvas, len(canvas)), (kind(FULL), 400))
                else:
                    self.assertEqual(canvas.turn(turn), 400 - number)

    def test_other_errors_are_ahead_of_it(self):
        for kind in KEEPING:
            for value in WRONG["turn"]:
                self.assertEqual(type(raised_by(kind([(4, 0), (5, 0)]).turn, value)), InvalidTurn)

    def test_shears_and_walks_are_not_refused(self):
        for kind in KEEPING:
            self.assertEqual([kind(BLOCK).shear(TURN, "xyx"), kind(BLOCK).walk(WAY)], [36, 36])


class Counting(unittest.TestCase):
    def test_lost(self):
        canvas = CountingCanvas(FULL)
        seen = []
        for turn in [TURN, (2, 1, 0), (4, -1, 0), (8, 3, 1)]:
            seen.append(canvas.turn(turn))
            self.assertEqual(canvas.lost, 400 - seen[-1])
        canvas.take(canvas.pixels[0])
        self.assertEqual(canvas.lost, 400 - seen[-1])
        canvas.put((1000, 1000))
        canvas.shear(TURN, "xyx")
        canvas.walk(WAY)
        self.assertEqual((canvas.lost, canvas.described()[1:]), (400 - seen[-1], (8, 400 - seen[-1])))
        for _ in range(4):
            canvas.undo()
        for number in [seen[2], seen[1], seen[0], 400]:
            canvas.undo()
            self.assertEqual(canvas.lost, 400 - number)
        self.assertEqual((canvas.pixels, canvas.described()), (FULL, (FULL, 0, 0)))

    def test_who_counts(self):
        for kind in CLASSES:
            canvas = kind([(4, 0), (5, 0)])
            self.assertEqual(hasattr(canvas, "lost"), kind in COUNTING)
            self.assertEqual(canvas.described(), ([(4, 0), (5, 0)], 0, 0 if kind in COUNTING else None))
            self.assertIs(type(canvas.described()), tuple)
        canvas = KeepingCountingCanvas([(4, 0), (5, 0)])
        raised_by(canvas.turn, TURN)
        self.assertEqual((canvas.lost, canvas.turn((2, 1, 0)), canvas.lost, canvas.described()[1:]), (0, 2, 0, (1, 0)))

    def test_the_families(self):
        self.assertEqual([[issubclass(one, other) for other in CLASSES] for one in CLASSES],
                         [[True, False, False, False], [True, True, False, False], [True, False, True, False], [True] * 4])
        for kind in CLASSES:
            self.assertIn("described", vars(kind))
        self.assertTrue("turn" in vars(KeepingCanvas) and "lost" in vars(CountingCanvas))


class Errors(unittest.TestCase):
    def test_the_constructor(self):
        for kind in CLASSES:
            for value, index in NO_PICTURES:
                found = raised_by(kind, value)
                self.assertEqual((type(found), found.index, type(found.index)), (InvalidPixels, index, type(index)))
                self.assertEqual(raised_by(kind, pixels=value).index, index)

    def check(self, canvas, name, parameters, good):
        for at, arguments in wrong_calls(good, [WRONG[parameter] for parameter in parameters]):
            before = repr(arguments)
            for found in (raised_by(getattr(canvas, name), *arguments),
                          raised_by(getattr(canvas, name), **dict(zip(parameters, arguments)))):
                self.assertIs(type(found), KINDS[parameters[at]], (name, arguments))
            self.assertEqual(repr(arguments), before)

    def test_the_deeds(self):
        for kind in CLASSES:
            canvas = kind(PICTURE)
            for name, parameters, good in [
                ("put", ["pixel"], [(1, 1)]), ("take", ["pixel"], [(1, 1)]), ("turn", ["turn"], [(2, 1, 0)]),
                ("shear", ["turn", "order"], [TURN, "xyx"]), ("walk", ["way"], [WAY]),
            ]:
                self.check(canvas, name, parameters, good)
            self.assertEqual(canvas, kind(PICTURE))
            for value, index in INDEXES["way"]:
                self.assertEqual((type(raised_by(canvas.walk, value)), raised_by(canvas.walk, value).index),
                                 (InvalidWay, index))
            self.assertEqual(type(raised_by(canvas.shear, TURN, "xy")), InvalidOrder)
            self.assertEqual((canvas.pixels, canvas.deeds), (PICTURE, []))

    def test_canvases_do_not_change_what_is_passed(self):
        for kind in CLASSES:
            pixels, way = list(PICTURE), list(WAY)
            canvas = kind(pixels)
            canvas.walk(way)
            canvas.put((50, 50))
            self.assertEqual((pixels, way), (PICTURE, WAY))
            self.assertEqual(called(walked_picture, way, pixels), sorted(canvas.pixels[:4]))


if __name__ == "__main__":
    unittest.main()
