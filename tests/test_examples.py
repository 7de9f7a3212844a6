"""The examples that the document prints, and those of README.md."""

import doctest
import os
import unittest

from turnedpixels.canvas import KeepingCanvas
from turnedpixels.errors import InvalidText, Lost
from turnedpixels.texts import parse_picture

ROOT = os.path.dirname(os.path.dirname(os.path.abspath(__file__)))

TURNS = """
>>> from turnedpixels.turns import back, exact_place, image, joined, legs_of, turn_of
>>> [legs_of((2, 1, 0)), legs_of((2, 1, 1)), turn_of((3, 4, 5)), turn_of((-8, 6, 10)), turn_of((0, -7, 7))]
[(3, 4, 5), (-4, 3, 5), (2, 1, 0), (2, 1, 1), (1, 0, 3)]
>>> [exact_place((4, 1, 0), (4, 0)), image((4, 1, 0), (4, 0)), image((4, 1, 0), (5, 0)), image((2, 1, 1), (1, 0)), back((2, 1, 1)), joined((7, 6, 0), (2, -1, 0))]
[(60, 32, 17), (4, 2), (4, 2), (-1, 1), (2, -1, 3), (4, 1, 0)]
"""

RESTS = """
>>> from turnedpixels.rests import all_rests, first_with, is_rest, nearest_with, rest_of, same_rest
>>> [rest_of((4, 1, 0), (4, 0)), rest_of((4, 1, 0), (5, 0)), is_rest((4, 1, 0), (2, 2)), same_rest((4, 1, 0), (0, 0), (4, -1)), all_rests((2, 1, 3))]
[(-2, 0), (2, 1), False, True, [(-1, 0), (0, -1), (0, 0), (0, 1), (1, 0)]]
>>> [first_with((4, 1, 0), (-2, 0)), nearest_with((4, 1, 0), (0, 0), (10 ** 30, 3))]
[(4, 0), (1000000000000000000000000000001, 2)]
"""

LOSSES = """
>>> from turnedpixels.losses import back_number, bare_share, keeping_number, keeps_all, kinds_of, twice_number
>>> [keeps_all((2, 1, 0)), keeps_all((4, 1, 0)), twice_number((2, 1, 0)), twice_number((4, 1, 0)), back_number((4, 1, 0)), bare_share((4, 1, 2)), kinds_of((4, 1, 0)), keeping_number(0), keeping_number(5), keeping_number(25)]
[True, False, 0, 4, 13, (4, 17), (9, 0, 8), 0, 12, 28]
"""

SOURCES = """
>>> from turnedpixels.sources import a_loss, came_from, comes_back, is_bare, meeting, next_bare, shows_loss
>>> [came_from((4, 1, 0), (4, 2)), came_from((4, 1, 0), (3, 2)), is_bare((4, 1, 0), (3, 2)), meeting((4, 1, 0), (5, 0)), meeting((4, 1, 0), (0, 0))]
[[(4, 0), (5, 0)], [], True, (4, 0), None]
>>> [comes_back((4, 1, 0), (4, 0)), comes_back((4, 1, 0), (5, 0)), next_bare((4, 1, 0), (3, 2)), shows_loss((4, 1, 0), ("bare", (3, 2))), shows_loss((4, 1, 0), ("meet", (5, 0), (4, 0)))]
[True, False, (3, 2), True, False]
"""

MISSES = """
>>> from turnedpixels.misses import greatest_miss, mean_miss, miss, miss_parts
>>> [miss((4, 1, 0), (4, 0)), mean_miss((4, 1, 0)), greatest_miss((4, 1, 0)), greatest_miss((3, 2, 1)), miss_parts((4, 1, 0), (4, 0))]
[(4, 17), (48, 289), (5, 17), (4, 13), ((8, 17), (2, 17))]
"""

CHAINS = """
>>> from turnedpixels.chains import after_chain, before_chain, fewest_shears, first_parting, matrix_of, shows_chain
>>> turn = [("x", -1, 2), ("y", 4, 5), ("x", -1, 2)]
>>> [matrix_of(turn), after_chain(turn, (1, 0)), before_chain(turn, (1, 1)), first_parting([("x", 1, 2)], [("x", 1, 3)], 1), first_parting([("x", 1, 2)], [("x", 2, 4)], 30)]
[(3, -4, 4, 3, 5), (1, 1), (1, 0), (-1, 1), None]
>>> [fewest_shears(matrix) for matrix in [(1, 0, 0, 1, 1), (1, 5, 0, 1, 1), (3, 2, 1, 1, 1), (3, -4, 4, 3, 5), (4, 0, 0, 1, 2), (-1, 0, 0, -1, 1)]]
[0, 1, 2, 3, 4, 4]
"""

SHEARS = """
>>> from turnedpixels.shears import shear_bound, shear_chain, shear_miss, sheared, unsheared
>>> [shear_chain((2, 1, 0), "xyx"), sheared((2, 1, 0), "xyx", (1, 0)), sheared((2, 1, 0), "yxy", (1, 0)), unsheared((2, 1, 0), "yxy", (0, 1)), shear_miss((2, 1, 0), "yxy", (1, 0)), shear_bound((2, 1, 0))]
[[('x', -1, 2), ('y', 4, 5), ('x', -1, 2)], (1, 1), (0, 1), (1, 0), (2, 5), (153, 80)]
"""

WAYS = """
>>> from turnedpixels.ways import product, shows_way, walked, walked_back, way_bound, way_miss
>>> way = [(7, 6, 0), (2, -1, 0)]
>>> [product(way), shows_way((4, 1, 0), way), walked(way, (1, 0)), walked_back(way, (1, 1)), way_miss(way, (1, 0)), way_bound(way), product([])]
[(4, 1, 0), True, (1, 1), (1, 0), (5, 17), (2, 1), (1, 0, 0)]
"""

SCALES = """
>>> from turnedpixels.scales import class_number, enlarged, meeting_numbers, one_to_one, onto, sources_of
>>> [enlarged((3, 1, 2), (1, 1)), one_to_one((3, 1, 2)), onto((3, 1, 2)), onto((3, 4, 5)), class_number((5, 5, 6)), meeting_numbers((5, 5, 6)), sources_of((5, 5, 6), (3, 3))]
[(1, 2), True, False, True, 18, (1, 0), [(3, 0), (4, 0)]]
"""

SIXES = """
>>> from turnedpixels.sixes import six_back, six_ball, six_image, six_keeps, six_numbers, six_place
>>> [six_place((3, 1, 0), (1, 0)), six_image((3, 1, 0), (1, 0)), six_image((3, 1, 1), (1, 0)), six_back((3, 1, 2)), six_ball(2), six_numbers((3, 1, 5)), six_keeps((4, 1, 0))]
[(8, 5, 7), (1, 1), (0, 1), (2, -1, 4), (5, 2, 0), (0, 7), True]
"""

PICTURES = """
>>> from turnedpixels.pictures import lost_number, meetings_in, there_and_back, turned_picture, walked_picture
>>> row = [(3, 0), (4, 0), (5, 0)]
>>> [turned_picture((4, 1, 0), row), lost_number((4, 1, 0), row), meetings_in((4, 1, 0), row), there_and_back((4, 1, 0), row), walked_picture([(2, 1, 0)], [(0, 0), (1, 0), (2, 0)])]
[[(3, 1), (4, 2)], 1, [((4, 0), (5, 0))], [(3, -1), (4, 0)], [(0, 0), (1, 1), (1, 2)]]
"""

CANVAS = """
>>> from turnedpixels.canvas import Canvas, CountingCanvas
>>> desk = CountingCanvas([(4, 0), (5, 0)])
>>> [desk.turn((4, 1, 0)), desk.lost, desk.put((0, 0)), desk.pixels, desk.undo(), desk.undo(), desk.described(), len(desk.twin()), desk == Canvas([(4, 0), (5, 0)])]
[1, 1, 2, [(0, 0), (4, 2)], None, None, ([(4, 0), (5, 0)], 0, 0), 2, False]
"""

TEXTS = """
>>> from turnedpixels.texts import format_chain, format_turn, parse_picture, parse_turn
>>> [format_turn((2, -1, 3)), format_chain([("x", -1, 2), ("y", 4, 5)]), parse_picture("-1,0 0,5"), parse_turn("4/1/0")]
['2/-1/3', 'x-1/2 y4/5', [(-1, 0), (0, 5)], (4, 1, 0)]
"""

CONSOLE = """
>>> from turnedpixels.console import Console
>>> desk = Console()
>>> [desk.execute(command) for command in ["new 4,0 5,0", "lost 4/1/0", "turn 4/1/0", "show", "undo", "keeps 4/1/0", "mean 4/1/0", "from 4/1/0 4,2", "from 4/1/0 3,2", "take 4,0", "show"]]
['ok', '1', '1', '4,2', 'ok', 'no', '48/289', '4,0 5,0', 'none', '1', '5,0']
"""


class Examples(unittest.TestCase):
    def run_examples(self, text, number):
        test = doctest.DocTestParser().get_doctest(text, {}, self.id(), None, 0)
        self.assertEqual(len(test.examples), number)
        report = []
        result = doctest.DocTestRunner(verbose=False).run(test, out=report.append)
        self.assertEqual(result.failed, 0, "".join(report))

    def test_turns(self):
        self.run_examples(TURNS, 3)

    def test_rests(self):
        self.run_examples(RESTS, 3)

    def test_losses(self):
        self.run_examples(LOSSES, 2)

    def test_sources(self):
        self.run_examples(SOURCES, 3)

    def test_misses(self):
        self.run_examples(MISSES, 2)

    def test_chains(self):
        self.run_examples(CHAINS, 4)

    def test_shears(self):
        self.run_examples(SHEARS, 2)

    def test_ways(self):
        self.run_examples(WAYS, 3)

    def test_scales(self):
        self.run_examples(SCALES, 2)

    def test_sixes(self):
        self.run_examples(SIXES, 2)

    def test_pictures(self):
        self.run_examples(PICTURES, 3)

    def test_canvas(self):
        self.run_examples(CANVAS, 3)

    def test_texts(self):
        self.run_examples(TEXTS, 2)

    def test_console(self):
        self.run_examples(CONSOLE, 3)

    def test_those_that_raise(self):
        with self.assertRaises(Lost) as caught:
            KeepingCanvas([(4, 0), (5, 0)]).turn((4, 1, 0))
        self.assertEqual(caught.exception.number, 1)
        with self.assertRaises(InvalidText) as caught:
            parse_picture("0,5 -1,0")
        self.assertEqual(caught.exception.place, 1)

    def test_readme(self):
        with open(os.path.join(ROOT, "README.md"), encoding="utf-8") as file:
            text = file.read().replace("```", "")
        self.run_examples(text, 47)


if __name__ == "__main__":
    unittest.main()
