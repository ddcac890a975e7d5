"""The form of the package's files, as far as a short test can see it."""

import ast
import os
import unittest

FOLDER = os.path.join(os.path.dirname(os.path.dirname(os.path.abspath(__file__))), "meltlibrary")
NODES_THAT_ARE_NOT_USED = (
    ast.AsyncFunctionDef, ast.AsyncFor, ast.AsyncWith, ast.Await, ast.Global, ast.Import, ast.Div,
)
LIBRARY = ("heapq", "math", "itertools", "collections")


def sources():
    """Pairs of a file of the package and its text."""
    found = []
    for name in sorted(os.listdir(FOLDER)):
        if name != "__pycache__":
            with open(os.path.join(FOLDER, name), encoding="utf-8") as source:
                found.append((name, source.read()))
    return found


class FormTest(unittest.TestCase):
    def test_files(self):
        names = [name for name, _ in sources()]
        self.assertIn("__init__.py", names)
        for name in names:
            self.assertRegex(name, "^[a-z0-9_]+[.]py$")

    def test_sizes_and_characters(self):
        for name, text in sources():
            lines = text.split("\n")
            self.assertLess(len(lines), 400, name)
            for place, line in enumerate(lines, 1):
                self.assertLessEqual(len(line), 120, (name, place))
                self.assertTrue(all(" " <= sign <= "~" for sign in line), (name, place))

    def test_functions_are_small(self):
        for name, text in sources():
            for node in ast.walk(ast.parse(text)):
                if isinstance(node, ast.FunctionDef):
                    self.assertLessEqual(node.end_lineno - node.lineno + 1, 40, (name, node.name))

    def test_imports(self):
        for name, text in sources():
            for node in ast.walk(ast.parse(text)):
                self.assertNotIsInstance(node, NODES_THAT_ARE_NOT_USED, name)
                if isinstance(node, ast.ImportFrom):
                    self.assertEqual(node.level, 0, name)
                    own = node.module.startswith("meltlibrary.")
                    self.assertTrue(own or node.module in LIBRARY, (name, node.module))

    def test_modules_hold_no_state_and_run_nothing(self):
        allowed = (ast.ImportFrom, ast.FunctionDef, ast.ClassDef, ast.Assign)
        for name, text in sources():
            first, *rest = ast.parse(text).body
            self.assertIsInstance(first, ast.Expr, name)
            self.assertIsInstance(first.value, ast.Constant, name)
            for node in rest:
                self.assertIsInstance(node, allowed, (name, node.lineno))
                if isinstance(node, ast.Assign):
                    # A plain value that is written out; this fails for anything that is worked out.
                    ast.literal_eval(node.value)


if __name__ == "__main__":
    unittest.main()
