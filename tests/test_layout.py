"""What can be seen of the package's files themselves: the interface's places, and the plainest rules of its language."""

import ast
import os
import unittest

ROOT = os.path.dirname(os.path.dirname(os.path.abspath(__file__)))
PACKAGE = os.path.join(ROOT, "mostclauses")
LIBRARY = ("heapq", "math", "itertools", "collections")

INTERFACE = {
    "errors.py": (
        "NoMarks", "NoPlan", "NoText", "NoKnot", "NoFresh", "NoBound", "NoGrow", "NotWider", "TooFar",
        "IsPut", "NotOn", "IsRule", "NoRule", "TooMany", "NoPut", "NoDeed", "IsBroken", "HasSome",
    ),
    "marks.py": ("is_mark", "is_clause"),
    "shows.py": ("is_shown",),
    "follower.py": ("Follower",),
    "counts.py": ("how_many", "choices"),
    "plans.py": ("is_part", "is_plan", "size_of", "show_plan", "read_plan"),
    "words.py": ("part_for", "plan_for"),
    "knots.py": ("sums_knot", "net_knot", "pairs_knot", "codes_knot", "sizes"),
    "said.py": ("Said",),
    "looks.py": ("is_knot", "first_wrong"),
    "plain.py": ("first_unlike", "apart", "are_apart"),
    "least.py": ("least",),
    "added.py": ("Added", "gap"),
    "keeper.py": ("Keeper",),
    "between.py": ("Between",),
    "papers.py": ("is_paper",),
    "desk.py": ("Desk",),
    "texts.py": ("show_clauses", "read_clauses", "show_desk", "read_desk"),
}

METHODS = {
    "Follower": ("put", "add", "back", "on", "shown", "puts", "is_broken", "clauses"),
    "Said": (
        "marks", "most", "plan", "clauses", "knots", "names", "kept", "broken", "follows", "__eq__", "__len__", "__str__",
    ),
    "Added": ("marks", "most", "clauses", "names", "kept", "broken", "follows", "__eq__", "__len__", "__str__"),
    "Keeper": (
        "bound", "wider", "more", "back", "marks", "reach", "most", "puts", "clauses", "names", "kept", "broken", "follows",
    ),
    "Between": ("marks", "least", "most", "clauses", "names", "kept", "broken", "follows"),
    "Desk": (
        "rule", "drop", "wish", "unwish", "back", "rules", "wishes", "clauses", "follows", "why", "find", "tally", "none",
    ),
}


def files():
    """The names of the package's files, without what Python itself leaves there."""
    return sorted(name for name in os.listdir(PACKAGE) if name != "__pycache__")


def text_of(name):
    with open(os.path.join(PACKAGE, name), encoding="utf-8", newline="") as file:
        return file.read()


class TestLayout(unittest.TestCase):

    def test_files(self):
        self.assertIn("__init__.py", files())
        for name in files():
            self.assertRegex(name, r"\A[a-z0-9_]+\.py\Z")

    def test_interface_is_defined_in_its_files(self):
        for name, wanted in INTERFACE.items():
            tree = ast.parse(text_of(name))
            there = [node.name for node in tree.body if isinstance(node, (ast.FunctionDef, ast.ClassDef))]
            self.assertLessEqual(set(wanted), set(there), name)

    def test_methods_are_defined_in_their_classes(self):
        found = {}
        for name in files():
            for node in ast.parse(text_of(name)).body:
                if isinstance(node, ast.ClassDef):
                    found[node.name] = {one.name for one in node.body if isinstance(one, ast.FunctionDef)}
        for name, wanted in METHODS.items():
            self.assertLessEqual(set(wanted), found[name], name)

    def test_signs_and_sizes(self):
        for name in files():
            text = text_of(name)
            self.assertTrue(all(sign == "\n" or " " <= sign <= "~" for sign in text), name)
            lines = text.split("\n")
            self.assertLessEqual(len(lines) - 1, 399, name)
            self.assertLessEqual(max(len(line) for line in lines), 120, name)

    def test_functions_are_small(self):
        for name in files():
            for node in ast.walk(ast.parse(text_of(name))):
                if isinstance(node, ast.FunctionDef):
                    self.assertLessEqual(node.end_lineno - node.lineno + 1, 40, (name, node.name))

    def test_imports(self):
        for name in files():
            for node in ast.walk(ast.parse(text_of(name))):
                self.assertNotIsInstance(node, ast.Import, name)
                if isinstance(node, ast.ImportFrom):
                    self.assertEqual(node.level, 0, name)
                    self.assertTrue(node.module.startswith("mostclauses.") or node.module in LIBRARY, name)

    def test_strings_and_numbers(self):
        for name in files():
            for node in ast.walk(ast.parse(text_of(name))):
                if isinstance(node, ast.Constant):
                    self.assertNotIsInstance(node.value, float, name)
                    if isinstance(node.value, str):
                        self.assertNotIn("%", node.value, name)


if __name__ == "__main__":
    unittest.main()
