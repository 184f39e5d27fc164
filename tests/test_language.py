"""Those rules of the language that a look at the package's files can hold."""

import ast
import builtins
import pathlib
import re
import unittest

PACKAGE = pathlib.Path(__file__).resolve().parent.parent / "resetcalls"
FILES = sorted(path for path in PACKAGE.rglob("*") if path.is_file() and "__pycache__" not in path.parts)
LIBRARY = {
    "heapq": {"heappush", "heappop", "heapify", "heapreplace", "heappushpop"},
    "math": {"gcd", "lcm", "isqrt", "comb", "perm", "factorial"},
    "itertools": {"product", "combinations", "permutations", "chain", "accumulate", "pairwise", "islice",
                  "zip_longest"},
    "collections": {"defaultdict", "deque"},
    "__future__": {"annotations"},
}
BUILTINS = set("""
    len range enumerate zip min max sum abs sorted reversed int str bool bytes list tuple dict set frozenset
    isinstance ord repr any all divmod pow getattr hasattr setattr iter next map type super property staticmethod
    classmethod Exception ValueError TypeError KeyError IndexError LookupError ZeroDivisionError ArithmeticError
    OverflowError RuntimeError NotImplementedError AttributeError StopIteration NotImplemented
""".split())
STATEMENTS = (ast.Import, ast.AsyncFunctionDef, ast.AsyncFor, ast.AsyncWith, ast.Await)


class Files(unittest.TestCase):
    def test_only_plain_files(self):
        self.assertIn(PACKAGE / "__init__.py", FILES)
        for path in FILES:
            self.assertRegex(path.name, r"^[a-z0-9_]+\.py$")

    def test_signs_and_sizes(self):
        for path in FILES:
            text = path.read_text(encoding="utf-8")
            with self.subTest(path=path.name):
                self.assertTrue(re.fullmatch(r"[ -~\n]*", text))
                self.assertNotIn("%", "".join(strings(text)))
                self.assertLessEqual(len(text.splitlines()), 399)
                self.assertLessEqual(max(map(len, text.splitlines()), default=0), 120)


class Code(unittest.TestCase):
    def test_functions_are_short(self):
        for where, node in nodes():
            if isinstance(node, ast.FunctionDef):
                self.assertLessEqual(node.end_lineno - node.lineno + 1, 40, msg=where)

    def test_imports(self):
        for where, node in nodes():
            if isinstance(node, ast.ImportFrom):
                names = {alias.name for alias in node.names}
                self.assertEqual(node.level, 0, msg=where)
                if node.module.startswith("resetcalls."):
                    self.assertTrue((PACKAGE / f"{node.module.split('.')[1]}.py").is_file(), msg=where)
                    self.assertNotIn("*", names, msg=where)
                else:
                    self.assertLessEqual(names, LIBRARY.get(node.module, set()), msg=where)

    def test_statements_and_numbers(self):
        for where, node in nodes():
            self.assertNotIsInstance(node, STATEMENTS, msg=where)
            self.assertNotIsInstance(node, ast.Div, msg=where)
            if isinstance(node, ast.Constant):
                self.assertNotIsInstance(node.value, (float, complex), msg=where)

    def test_names(self):
        barred = set(vars(builtins)) - BUILTINS
        for where, node in nodes():
            if isinstance(node, ast.Name):
                self.assertNotIn(node.id, barred, msg=where)
                if not isinstance(node.ctx, ast.Load):
                    self.assertNotIn(node.id, BUILTINS, msg=where)
            if isinstance(node, ast.arg):
                self.assertNotIn(node.arg, vars(builtins), msg=where)
            if isinstance(node, (ast.FunctionDef, ast.ClassDef)):
                self.assertNotIn(node.name, vars(builtins), msg=where)


def nodes():
    """Each node of each file, behind the file's name and the line."""
    return [(f"{path.name}, line {getattr(node, 'lineno', 0)}", node) for path in FILES
            for node in ast.walk(ast.parse(path.read_text(encoding="utf-8")))]


def strings(text):
    """The strings of a file that are no docstrings."""
    tree = ast.parse(text)
    told = {id(node.value) for node in ast.walk(tree) if isinstance(node, ast.Expr)}
    return [node.value for node in ast.walk(tree)
            if isinstance(node, ast.Constant) and isinstance(node.value, str) and id(node) not in told]


if __name__ == "__main__":
    unittest.main()
