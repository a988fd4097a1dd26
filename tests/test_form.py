"""The form of the package, as far as a short test can see it."""

import ast
import pathlib
import unittest

PACKAGE = pathlib.Path(__file__).resolve().parent.parent / "laidviews"
LIBRARY = {"heapq", "math", "itertools", "collections"}


def sources():
    return sorted(PACKAGE.rglob("*.py"))


def functions(path):
    for node in ast.walk(ast.parse(path.read_text("utf-8"))):
        if isinstance(node, ast.FunctionDef):
            yield node


class Form(unittest.TestCase):
    def test_only_python_files(self):
        found = [path for path in PACKAGE.rglob("*") if path.is_file() and "__pycache__" not in path.parts]
        self.assertEqual(sorted(found), sources())
        self.assertIn(PACKAGE / "__init__.py", found)

    def test_plain_signs_and_short_lines(self):
        for path in sources():
            text = path.read_bytes()
            self.assertTrue(all(byte == 10 or 32 <= byte <= 126 for byte in text), path)
            lines = text.split(b"\n")
            self.assertLessEqual(len(lines), 400, path)
            self.assertLessEqual(max(len(line) for line in lines), 120, path)

    def test_short_functions(self):
        for path in sources():
            for node in functions(path):
                self.assertLessEqual(node.end_lineno - node.lineno + 1, 40, (path, node.name))

    def test_imports(self):
        for path in sources():
            for node in ast.walk(ast.parse(path.read_text("utf-8"))):
                self.assertNotIsInstance(node, ast.Import, path)
                if isinstance(node, ast.ImportFrom):
                    self.assertEqual(node.level, 0, path)
                    self.assertIn(node.module.split(".")[0], {"laidviews"} | LIBRARY, path)


if __name__ == "__main__":
    unittest.main()
