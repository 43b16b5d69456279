"""The sizes, characters, imports and words of the package's files, as ../shared/LANGUAGE.md limits them."""

import ast
import builtins
import pathlib
import re
import unittest

from fateboards import errors

PACKAGE = pathlib.Path(__file__).parent.parent / "fateboards"
FILES = sorted(PACKAGE.rglob("*.py"))
LIBRARY = ("heapq", "math", "itertools", "collections", "__future__")
FUNCTIONS = (ast.FunctionDef, ast.Lambda)
TREES = [(path, ast.parse(path.read_text(encoding="utf-8"))) for path in FILES]
BUILTINS = (
    "len range enumerate zip min max sum abs sorted reversed int str bool list tuple dict set isinstance ord repr any "
    "all divmod super ValueError"
).split()
METHODS = (
    "append clear copy count endswith extend find get index insert isalnum isalpha isdigit islower isspace isupper "
    "items join keys ljust lower lstrip partition pop remove replace reverse rfind rjust rpartition rsplit rstrip "
    "setdefault split splitlines startswith strip update upper values zfill bit_length add discard __init__"
).split()
# By now, other tests may have made "_" a builtin, as doctest does.
NOT_TO_BE_NAMED = [name for name in dir(builtins) if name not in ("_", "__init__")]
BARRED = (
    "register mro elements open input law version_info type typing enum Enum IntEnum Flag Generic Protocol ABC "
    "namedtuple NamedTuple TypedDict dataclass overload contextmanager eval exec compile vars dir id help gc sys os"
).split()
# The package does without these, although some of them may stand in some places.
NODES = (
    ast.Global, ast.AsyncFunctionDef, ast.AsyncFor, ast.AsyncWith, ast.Await, ast.Div, ast.Set, ast.SetComp,
    ast.GeneratorExp, ast.Yield, ast.YieldFrom, ast.With, ast.Match,
)


class SourcesTest(unittest.TestCase):

    def test_sizes(self):
        for path in FILES:
            lines = path.read_text(encoding="utf-8").split("\n")
            self.assertLessEqual(len(lines) - 1, 399, path)
            self.assertLessEqual(max(len(line) for line in lines), 120, path)
            for node in ast.walk(ast.parse("\n".join(lines))):
                if isinstance(node, FUNCTIONS):
                    self.assertLessEqual(node.end_lineno - node.lineno + 1, 40, (path, node.lineno))

    def test_characters(self):
        for path in FILES:
            wrong = {sign for sign in path.read_text(encoding="utf-8") if sign != "\n" and not " " <= sign <= "~"}
            self.assertEqual(wrong, set(), path)

    def test_imports(self):
        for path in FILES:
            for node in ast.walk(ast.parse(path.read_text(encoding="utf-8"))):
                self.assertNotIsInstance(node, ast.Import, path)
                if isinstance(node, ast.ImportFrom):
                    self.assertEqual(node.level, 0, path)
                    if node.module not in LIBRARY:
                        self.assertTrue(node.module.startswith("fateboards."), (path, node.module))

    def test_imports_name_the_file_that_defines(self):
        for path, tree in TREES:
            for node in ast.walk(tree):
                if isinstance(node, ast.ImportFrom) and node.module not in LIBRARY:
                    body = ast.parse((PACKAGE / (node.module.split(".")[1] + ".py")).read_text(encoding="utf-8")).body
                    made = {part.name for part in body if isinstance(part, (ast.FunctionDef, ast.ClassDef))}
                    made |= {name.id for part in body if isinstance(part, ast.Assign) for name in part.targets}
                    self.assertLessEqual({name.name for name in node.names}, made, path)

    def test_names(self):
        defined = (ast.FunctionDef, ast.ClassDef)
        own = {node.name for _, tree in TREES for node in ast.walk(tree) if isinstance(node, defined)}
        for path, tree in TREES:
            for node in ast.walk(tree):
                if isinstance(node, ast.Name) and node.id in NOT_TO_BE_NAMED:
                    self.assertIn(node.id, BUILTINS, (path, node.lineno))
                    self.assertIsInstance(node.ctx, ast.Load, (path, node.lineno))
                if isinstance(node, (ast.arg, ast.FunctionDef, ast.ClassDef)):
                    name = node.arg if isinstance(node, ast.arg) else node.name
                    self.assertNotIn(name, NOT_TO_BE_NAMED, (path, node.lineno))
                if isinstance(node, ast.Call) and isinstance(node.func, ast.Attribute):
                    name = node.func.attr
                    self.assertTrue(name in METHODS or name in own, (path, node.lineno, name))

    def test_local_names_are_no_imports_and_classes(self):
        for path, tree in TREES:
            taken = {name.name for node in ast.walk(tree) if isinstance(node, ast.ImportFrom) for name in node.names}
            taken |= {node.name for node in tree.body if isinstance(node, ast.ClassDef)}
            for node in ast.walk(tree):
                if isinstance(node, ast.arg):
                    self.assertNotIn(node.arg, taken, (path, node.lineno))
                if isinstance(node, ast.Name) and isinstance(node.ctx, ast.Store):
                    self.assertNotIn(node.id, taken, (path, node.lineno))

    def test_a_name_is_no_method_and_attribute_in_one_class(self):
        for path, tree in TREES:
            for node in [node for node in tree.body if isinstance(node, ast.ClassDef)]:
                methods = {part.name for part in node.body if isinstance(part, ast.FunctionDef)}
                stored = {part.attr for part in ast.walk(node)
                          if isinstance(part, ast.Attribute) and isinstance(part.ctx, ast.Store)}
                self.assertEqual(methods & stored, set(), (path, node.name))

    def test_imports_go_one_way(self):
        follows = {path.stem: [node.module.split(".")[1] for node in ast.walk(tree)
                               if isinstance(node, ast.ImportFrom) and node.module.startswith("fateboards.")]
                   for path, tree in TREES}
        while follows:
            ends = [name for name in follows if not any(other in follows for other in follows[name])]
            self.assertNotEqual(ends, [], follows)
            for name in ends:
                del follows[name]

    def test_words(self):
        for path, tree in TREES:
            names = [node.id for node in ast.walk(tree) if isinstance(node, ast.Name)]
            names += [node.attr for node in ast.walk(tree) if isinstance(node, ast.Attribute)]
            names += [node.arg for node in ast.walk(tree) if isinstance(node, ast.arg)]
            self.assertEqual([name for name in names if name in BARRED], [], path)
            barred = re.compile("__(?!init__)|_wall|_pe_|_law_|_stub_")
            self.assertEqual([name for name in names if barred.match(name)], [], path)
            for node in ast.walk(tree):
                if isinstance(node, ast.Constant):
                    self.assertNotIsInstance(node.value, (float, bytes), (path, node.lineno))
                    if isinstance(node.value, str):
                        self.assertNotIn("%", node.value, (path, node.lineno))

    def test_nodes(self):
        for path, tree in TREES:
            for node in ast.walk(tree):
                self.assertNotIsInstance(node, NODES, path)
                self.assertEqual(getattr(node, "decorator_list", []), [], path)
                if isinstance(node, ast.Try):
                    for handler in node.handlers:
                        self.assertTrue(hasattr(errors, handler.type.id), path)
                if isinstance(node, ast.BinOp) and isinstance(node.op, ast.Pow):
                    self.assertIsInstance(node.right, ast.Constant, path)
                if isinstance(node, ast.Compare) and isinstance(node.ops[0], (ast.Is, ast.IsNot)):
                    self.assertIsNone(node.comparators[0].value, path)


if __name__ == "__main__":
    unittest.main()
