"""The sizes, characters and imports of the package's files, as ../shared/LANGUAGE.md limits them."""

import ast
import pathlib
import unittest

PACKAGE = pathlib.Path(__file__).parent.parent / "fateboards"
FILES = sorted(PACKAGE.rglob("*.py"))
LIBRARY = ("heapq", "math", "itertools", "collections", "__future__")
FUNCTIONS = (ast.FunctionDef, ast.Lambda)


class SourcesTest(unittest.TestCase):

    def test_sizes(self):
        for path in FILES:
            lines = path.read_text(encoding="utf-8").split("\n")
            self.assertLessEqual(len(lines) - 1, 399, path)
            self.assertLessEqual(max(len(line) for line in lines), 120, path)
            for node in ast.walk(ast.parse("\n".join(lines))):
                if isinstance(node, FUNCTIONS):
                    self.assertLessEqual(node.end_lineno - node.lineno + 1, 40, (path, node.lineno))

    def test_characters(self):
        for path in FILES:
            wrong = {sign for sign in path.read_text(encoding="utf-8") if sign != "\n" and not " " <= sign <= "~"}
            self.assertEqual(wrong, set(), path)

    def test_imports(self):
        for path in FILES:
            for node in ast.walk(ast.parse(path.read_text(encoding="utf-8"))):
                self.assertNotIsInstance(node, ast.Import, path)
                if isinstance(node, ast.ImportFrom):
                    self.assertEqual(node.level, 0, path)
                    if node.module not in LIBRARY:
                        self.assertTrue(node.module.startswith("fateboards."), (path, node.module))


if __name__ == "__main__":
    unittest.main()
