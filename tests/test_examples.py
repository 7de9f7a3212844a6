"""The examples that the document prints under [12] to [19], as far as they are built, and those of README.md."""

import doctest
import os
import unittest

ROOT = os.path.dirname(os.path.dirname(os.path.abspath(__file__)))

TURNS = """
>>> from turnedpixels.turns import back, exact_place, image, joined, legs_of, turn_of
>>> [legs_of((2, 1, 0)), legs_of((2, 1, 1)), turn_of((3, 4, 5)), turn_of((-8, 6, 10)), turn_of((0, -7, 7))]
[(3, 4, 5), (-4, 3, 5), (2, 1, 0), (2, 1, 1), (1, 0, 3)]
>>> [exact_place((4, 1, 0), (4, 0)), image((4, 1, 0), (4, 0)), image((4, 1, 0), (5, 0)), image((2, 1, 1), (1, 0)), back((2, 1, 1)), joined((7, 6, 0), (2, -1, 0))]
[(60, 32, 17), (4, 2), (4, 2), (-1, 1), (2, -1, 3), (4, 1, 0)]
"""

RESTS = """
>>> from turnedpixels.rests import all_rests, first_with, is_rest, nearest_with, rest_of, same_rest
>>> [rest_of((4, 1, 0), (4, 0)), rest_of((4, 1, 0), (5, 0)), is_rest((4, 1, 0), (2, 2)), same_rest((4, 1, 0), (0, 0), (4, -1)), all_rests((2, 1, 3))]
[(-2, 0), (2, 1), False, True, [(-1, 0), (0, -1), (0, 0), (0, 1), (1, 0)]]
>>> [first_with((4, 1, 0), (-2, 0)), nearest_with((4, 1, 0), (0, 0), (10 ** 30, 3))]
[(4, 0), (1000000000000000000000000000001, 2)]
"""

LOSSES = """
>>> from turnedpixels.losses import back_number, bare_share, keeping_number, keeps_all, kinds_of, twice_number
>>> [keeps_all((2, 1, 0)), keeps_all((4, 1, 0)), twice_number((2, 1, 0)), twice_number((4, 1, 0)), back_number((4, 1, 0)), bare_share((4, 1, 2)), kinds_of((4, 1, 0)), keeping_number(0), keeping_number(5), keeping_number(25)]
[True, False, 0, 4, 13, (4, 17), (9, 0, 8), 0, 12, 28]
"""

SOURCES = """
>>> from turnedpixels.sources import a_loss, came_from, comes_back, is_bare, meeting, next_bare, shows_loss
>>> [came_from((4, 1, 0), (4, 2)), came_from((4, 1, 0), (3, 2)), is_bare((4, 1, 0), (3, 2)), meeting((4, 1, 0), (5, 0)), meeting((4, 1, 0), (0, 0))]
[[(4, 0), (5, 0)], [], True, (4, 0), None]
>>> [comes_back((4, 1, 0), (4, 0)), comes_back((4, 1, 0), (5, 0)), next_bare((4, 1, 0), (3, 2)), shows_loss((4, 1, 0), ("bare", (3, 2))), shows_loss((4, 1, 0), ("meet", (5, 0), (4, 0)))]
[True, False, (3, 2), True, False]
"""

MISSES = """
>>> from turnedpixels.misses import greatest_miss, mean_miss, miss, miss_parts
>>> [miss((4, 1, 0), (4, 0)), mean_miss((4, 1, 0)), greatest_miss((4, 1, 0)), greatest_miss((3, 2, 1)), miss_parts((4, 1, 0), (4, 0))]
[(4, 17), (48, 289), (5, 17), (4, 13), ((8, 17), (2, 17))]
"""

CHAINS = """
>>> from turnedpixels.chains import after_chain, before_chain, fewest_shears, first_parting, matrix_of, shows_chain
>>> turn = [("x", -1, 2), ("y", 4, 5), ("x", -1, 2)]
>>> [matrix_of(turn), after_chain(turn, (1, 0)), before_chain(turn, (1, 1)), first_parting([("x", 1, 2)], [("x", 1, 3)], 1), first_parting([("x", 1, 2)], [("x", 2, 4)], 30)]
[(3, -4, 4, 3, 5), (1, 1), (1, 0), (-1, 1), None]
>>> [fewest_shears(matrix) for matrix in [(1, 0, 0, 1, 1), (1, 5, 0, 1, 1), (3, 2, 1, 1, 1), (3, -4, 4, 3, 5), (4, 0, 0, 1, 2), (-1, 0, 0, -1, 1)]]
[0, 1, 2, 3, 4, 4]
"""


class Examples(unittest.TestCase):
    def run_examples(self, text, number):
        test = doctest.DocTestParser().get_doctest(text, {}, self.id(), None, 0)
        self.assertEqual(len(test.examples), number)
        report = []
        result = doctest.DocTestRunner(verbose=False).run(test, out=report.append)
        self.assertEqual(result.failed, 0, "".join(report))

    def test_turns(self):
        self.run_examples(TURNS, 3)

    def test_rests(self):
        self.run_examples(RESTS, 3)

    def test_losses(self):
        self.run_examples(LOSSES, 2)

    def test_sources(self):
        self.run_examples(SOURCES, 3)

    def test_misses(self):
        self.run_examples(MISSES, 2)

    def test_chains(self):
        self.run_examples(CHAINS, 4)

    def test_readme(self):
        with open(os.path.join(ROOT, "README.md"), encoding="utf-8") as file:
            text = file.read().replace("```", "")
        self.run_examples(text, 20)


if __name__ == "__main__":
    unittest.main()
