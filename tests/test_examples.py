"""The examples that the document prints under [12] and [13], and those of README.md."""

import doctest
import os
import unittest

ROOT = os.path.dirname(os.path.dirname(os.path.abspath(__file__)))

TURNS = """
>>> from turnedpixels.turns import back, exact_place, image, joined, legs_of, turn_of
>>> [legs_of((2, 1, 0)), legs_of((2, 1, 1)), turn_of((3, 4, 5)), turn_of((-8, 6, 10)), turn_of((0, -7, 7))]
[(3, 4, 5), (-4, 3, 5), (2, 1, 0), (2, 1, 1), (1, 0, 3)]
>>> [exact_place((4, 1, 0), (4, 0)), image((4, 1, 0), (4, 0)), image((4, 1, 0), (5, 0)), image((2, 1, 1), (1, 0)), back((2, 1, 1)), joined((7, 6, 0), (2, -1, 0))]
[(60, 32, 17), (4, 2), (4, 2), (-1, 1), (2, -1, 3), (4, 1, 0)]
"""

RESTS = """
>>> from turnedpixels.rests import all_rests, first_with, is_rest, nearest_with, rest_of, same_rest
>>> [rest_of((4, 1, 0), (4, 0)), rest_of((4, 1, 0), (5, 0)), is_rest((4, 1, 0), (2, 2)), same_rest((4, 1, 0), (0, 0), (4, -1)), all_rests((2, 1, 3))]
[(-2, 0), (2, 1), False, True, [(-1, 0), (0, -1), (0, 0), (0, 1), (1, 0)]]
>>> [first_with((4, 1, 0), (-2, 0)), nearest_with((4, 1, 0), (0, 0), (10 ** 30, 3))]
[(4, 0), (1000000000000000000000000000001, 2)]
"""


class Examples(unittest.TestCase):
    def run_examples(self, text, number):
        test = doctest.DocTestParser().get_doctest(text, {}, self.id(), None, 0)
        self.assertEqual(len(test.examples), number)
        report = []
        result = doctest.DocTestRunner(verbose=False).run(test, out=report.append)
        self.assertEqual(result.failed, 0, "".join(report))

    def test_turns(self):
        self.run_examples(TURNS, 3)

    def test_rests(self):
        self.run_examples(RESTS, 3)

    def test_readme(self):
        with open(os.path.join(ROOT, "README.md"), encoding="utf-8") as file:
            text = file.read().replace("```", "")
        self.run_examples(text, 8)


if __name__ == "__main__":
    unittest.main()
