"""The names and arguments of the interface, and what of the form of the code is easily counted."""

import ast
import importlib
import inspect
import os
import unittest

import turnedpixels

FOLDER = os.path.dirname(os.path.abspath(turnedpixels.__file__))

INTERFACE = {
    "turns": {
        "is_pixel": ["value"], "is_turn": ["value"], "legs_of": ["turn"], "turn_of": ["legs"],
        "exact_place": ["turn", "pixel"], "image": ["turn", "pixel"], "back": ["turn"], "joined": ["turn", "other"],
    },
    "rests": {
        "rest_of": ["turn", "pixel"], "is_rest": ["turn", "value"], "same_rest": ["turn", "pixel", "mate"],
        "first_with": ["turn", "rest"], "nearest_with": ["turn", "rest", "pixel"], "all_rests": ["turn"],
    },
    "losses": {
        "keeps_all": ["turn"], "twice_number": ["turn"], "back_number": ["turn"], "bare_share": ["turn"],
        "kinds_of": ["turn"], "keeping_number": ["number"],
    },
    "sources": {
        "came_from": ["turn", "pixel"], "is_bare": ["turn", "pixel"], "comes_back": ["turn", "pixel"],
        "meeting": ["turn", "pixel"], "next_bare": ["turn", "pixel"], "a_loss": ["turn"],
        "shows_loss": ["turn", "value"],
    },
    "misses": {
        "miss": ["turn", "pixel"], "mean_miss": ["turn"], "greatest_miss": ["turn"], "miss_parts": ["turn", "pixel"],
    },
    "chains": {
        "is_chain": ["value"], "is_matrix": ["value"], "after_chain": ["chain", "pixel"],
        "before_chain": ["chain", "pixel"], "matrix_of": ["chain"], "fewest_shears": ["matrix"],
        "chain_for": ["matrix"], "shows_chain": ["matrix", "value"], "first_parting": ["chain", "second", "reach"],
    },
    "shears": {
        "shear_chain": ["turn", "order"], "sheared": ["turn", "order", "pixel"],
        "unsheared": ["turn", "order", "pixel"], "shear_miss": ["turn", "order", "pixel"], "shear_bound": ["turn"],
        "shear_tally": ["turn", "order"],
    },
    "ways": {
        "is_way": ["value"], "way_for": ["turn"], "product": ["way"], "shows_way": ["turn", "value"],
        "walked": ["way", "pixel"], "walked_back": ["way", "pixel"], "way_miss": ["way", "pixel"], "way_bound": ["way"],
    },
    "scales": {
        "enlarged": ["scale", "pixel"], "class_number": ["scale"], "meeting_numbers": ["scale"],
        "one_to_one": ["scale"], "onto": ["scale"], "sources_of": ["scale", "pixel"],
    },
    "sixes": {
        "six_place": ["six", "pixel"], "six_image": ["six", "pixel"], "six_back": ["six"], "six_numbers": ["six"],
        "six_keeps": ["six"], "six_ball": ["number"],
    },
    "pictures": {
        "is_picture": ["value"], "turned_picture": ["turn", "pixels"], "lost_number": ["turn", "pixels"],
        "meetings_in": ["turn", "pixels"], "gaps_in": ["turn", "pixels"], "there_and_back": ["turn", "pixels"],
        "sheared_picture": ["turn", "order", "pixels"], "walked_picture": ["way", "pixels"],
    },
    "texts": {
        "format_pixel": ["pixel"], "format_picture": ["pixels"], "format_turn": ["turn"], "format_chain": ["chain"],
        "parse_pixel": ["text"], "parse_picture": ["text"], "parse_turn": ["text"], "parse_chain": ["text"],
    },
}

# Of each class: the arguments of its constructor, the methods and the properties that stand in its own body.
CLASSES = {
    "canvas": {
        "Canvas": (["pixels"], {
            "put": ["pixel"], "take": ["pixel"], "turn": ["turn"], "shear": ["turn", "order"], "walk": ["way"],
            "undo": [], "twin": [], "described": [], "__len__": [], "__eq__": ["other"],
        }, ["pixels", "deeds"]),
        "KeepingCanvas": (["pixels"], {"turn": ["turn"], "described": []}, []),
        "CountingCanvas": (["pixels"], {"described": []}, ["lost"]),
        "KeepingCountingCanvas": (["pixels"], {"described": []}, []),
    },
    "console": {"Console": ([], {"execute": ["command"]}, [])},
}


def source_files():
    """The name and the text of each file of the package."""
    found = []
    for name in sorted(os.listdir(FOLDER)):
        if name != "__pycache__":
            with open(os.path.join(FOLDER, name), encoding="utf-8") as file:
                found.append((name, file.read()))
    return found


class Interface(unittest.TestCase):
    def test_functions_stand_in_their_files_with_their_arguments(self):
        for file, functions in INTERFACE.items():
            module = importlib.import_module("turnedpixels." + file)
            for name, arguments in functions.items():
                with self.subTest(file=file, name=name):
                    function = getattr(module, name)
                    self.assertTrue(inspect.isfunction(function))
                    self.assertEqual(function.__module__, "turnedpixels." + file)
                    parameters = inspect.signature(function).parameters.values()
                    self.assertEqual([parameter.name for parameter in parameters], arguments)
                    for parameter in parameters:
                        self.assertEqual(parameter.kind, inspect.Parameter.POSITIONAL_OR_KEYWORD)
                        self.assertEqual(parameter.default, inspect.Parameter.empty)


    def test_classes_stand_in_their_files_with_their_methods(self):
        for file, classes in CLASSES.items():
            module = importlib.import_module("turnedpixels." + file)
            for name, (arguments, methods, properties) in classes.items():
                with self.subTest(file=file, name=name):
                    found = getattr(module, name)
                    self.assertEqual((found.__name__, found.__module__), (name, "turnedpixels." + file))
                    self.assertEqual(list(inspect.signature(found).parameters), arguments)
                    for method, told in methods.items():
                        self.assertEqual(list(inspect.signature(vars(found)[method]).parameters), ["self", *told])
                    for one in properties:
                        self.assertIsInstance(vars(found)[one], property)
                    public = [key for key, value in vars(found).items()
                              if not key.startswith("_") and (callable(value) or isinstance(value, property))]
                    self.assertLessEqual(set(public), {*methods, *properties})

    def test_the_document_lists_no_other_module(self):
        files = [name for name, _ in source_files()]
        self.assertEqual(sorted(files), sorted(
            ["__init__.py", "errors.py", "integers.py"] + [f"{name}.py" for name in [*INTERFACE, *CLASSES]]))


class Form(unittest.TestCase):
    def test_files_lines_and_characters(self):
        for name, text in source_files():
            self.assertTrue(name.endswith(".py"), name)
            self.assertLessEqual(len(text.split("\n")), 399, name)
            for line in text.split("\n"):
                self.assertLessEqual(len(line), 120, (name, line))
                self.assertTrue(all(" " <= character <= "~" for character in line), (name, line))

    def test_functions_have_at_most_40_lines(self):
        for name, text in source_files():
            for node in ast.walk(ast.parse(text)):
                if isinstance(node, ast.FunctionDef):
                    self.assertLessEqual(node.end_lineno - node.lineno + 1, 40, (name, node.name))

    def test_imports(self):
        for name, text in source_files():
            for node in ast.walk(ast.parse(text)):
                self.assertNotIsInstance(node, ast.Import, name)
                if isinstance(node, ast.ImportFrom):
                    self.assertEqual(node.level, 0)
                    if node.module == "math":
                        self.assertLessEqual({part.name for part in node.names}, {"gcd", "isqrt"})
                    else:
                        self.assertTrue(node.module.startswith("turnedpixels."), (name, node.module))

    def test_no_floats_and_no_division_that_makes_them(self):
        for name, text in source_files():
            for node in ast.walk(ast.parse(text)):
                self.assertNotIsInstance(node, ast.Div, name)
                if isinstance(node, ast.Constant):
                    self.assertNotIsInstance(node.value, float, name)


if __name__ == "__main__":
    unittest.main()
