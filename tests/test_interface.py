"""The interface's names stand in their files, and the package keeps to the plainest rules of its language."""

import ast
import inspect
import unittest

from tests.sources import PACKAGE, files
from turnfriends import asking, choosing, classes, dances, desks, growing, halls, leading, leaving, listing, looks
from turnfriends import naming, printing, running, sums, trees, widths

FUNCTIONS = {
    halls: {
        "is_hall": ["value"], "friends": ["hall", "x"], "turned": ["hall", "x"], "turned_all": ["hall", "row"],
        "swapped": ["hall", "x", "y"], "renamed": ["hall", "order"], "rank_of": ["hall", "lot"], "ranks": ["hall"],
        "parts": ["hall"],
    },
    printing: {"check": ["text"], "printed": ["text"], "start_of": ["text"]},
    running: {"run": ["text"]},
    looks: {
        "added": ["one", "other"], "own_row": ["hall", "x"], "meet_oddly": ["one", "other"], "is_in_room": ["hall", "row"],
        "room": ["hall"],
    },
    choosing: {
        "left_over": ["hall", "choice"], "signs_over": ["hall", "choice"], "choices": ["hall"],
        "base_row": ["hall", "choice", "x"], "hall_of": ["hall", "choice"], "third": ["hall", "choice", "x"],
        "walk": ["hall", "choice", "other"],
    },
    naming: {
        "changed": ["row", "change"], "answers": ["hall", "other"], "count_answers": ["hall", "other"],
        "free_signs": ["hall", "other"], "equations": ["hall", "other"],
    },
    leading: {
        "leads": ["hall", "other"], "turns_to": ["hall", "other"], "paper": ["hall", "other"],
        "judged": ["hall", "other", "paper"],
    },
    classes: {
        "members": ["hall"], "count_members": ["hall"], "number_of": ["hall"], "fewest_turns": ["hall", "other"],
        "least_member": ["hall"], "member_at": ["hall", "number"], "least_row": ["hall", "other"], "farthest": ["hall"],
    },
    leaving: {"left": ["hall", "x", "look"], "all_left": ["hall", "x"], "lies_in": ["small", "hall", "who"]},
    trees: {"is_tree": ["hall"], "tree_name": ["hall"]},
    dances: {
        "hall_of_dance": ["dance"], "turned_dance": ["dance", "x"], "least_dance": ["dance"], "dances": ["hall"],
        "tours": ["dance"], "is_danced": ["hall"], "yard": ["dance"], "count_tours": ["dance"],
    },
    sums: {"sum_of_lots": ["hall"], "sum_of_choices": ["hall"]},
    desks: {"Desk": ["hall"], "desk_of": ["text"]},
    growing: {"splits": ["hall"], "is_grown": ["hall"], "growth": ["hall"], "grown": ["steps"]},
    widths: {"width_of": ["hall", "order"], "width": ["hall"], "narrow_order": ["hall"]},
    listing: {"least_named": ["hall"], "classes_of": ["n"]},
    asking: {
        "sign_of": ["hall", "row"], "outcomes": ["hall", "choice"], "table": ["hall"], "is_table": ["hall", "value"],
        "bars": ["hall"],
    },
}
METHODS = {
    "turn": ["x"], "swap": ["x", "y"], "leave": ["x", "look"], "undo": [], "hall": [], "row": [], "ranks": [], "is_tree": [],
    "count": [], "aim": ["other"], "text": [],
}
LIBRARY = {"heapq", "math", "itertools", "collections", "__future__"}


class Interface(unittest.TestCase):
    def test_defined_where_listed(self):
        for module, told in FUNCTIONS.items():
            for name, parameters in told.items():
                function = getattr(module, name)
                self.assertEqual(function.__module__, module.__name__)
                self.assertEqual(list(inspect.signature(function).parameters), parameters)

    def test_methods_of_the_desk(self):
        for name, parameters in METHODS.items():
            self.assertEqual(list(inspect.signature(vars(desks.Desk)[name]).parameters), ["self", *parameters])


class Language(unittest.TestCase):
    def test_package_holds_code_alone(self):
        for path in PACKAGE.rglob("*"):
            if "__pycache__" not in path.parts:
                self.assertEqual(path.suffix, ".py")

    def test_sizes_and_signs(self):
        for path in files():
            text = path.read_text(encoding="utf-8")
            self.assertLessEqual(len(text.split("\n")) - 1, 399, path)
            for line in text.split("\n"):
                self.assertLessEqual(len(line), 120, path)
                self.assertTrue(all(" " <= sign <= "~" for sign in line), path)
            for node in ast.walk(ast.parse(text)):
                if isinstance(node, ast.FunctionDef):
                    self.assertLessEqual(node.end_lineno - node.lineno + 1, 40, node.name)

    def test_imports(self):
        for path in files():
            for node in ast.walk(ast.parse(path.read_text(encoding="utf-8"))):
                self.assertNotIsInstance(node, ast.Import, path)
                if isinstance(node, ast.ImportFrom):
                    self.assertIn(node.module.split(".")[0], {"turnfriends", *LIBRARY})
                    self.assertEqual(node.level, 0)

    def test_no_floats_and_no_division(self):
        for path in files():
            for node in ast.walk(ast.parse(path.read_text(encoding="utf-8"))):
                self.assertNotIsInstance(node, ast.Div, path)
                if isinstance(node, ast.Constant):
                    self.assertNotIsInstance(node.value, (float, complex), path)
