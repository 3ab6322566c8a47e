"""The package keeps to ../shared/LANGUAGE.md, as far as that can be seen by simple means."""

import ast
import builtins
import unittest
from pathlib import Path

import eventledger

FOLDER = Path(eventledger.__file__).parent
FILES = sorted(FOLDER.glob("*.py"))
LIBRARY = {
    "heapq": {"heappush", "heappop", "heapify", "heapreplace", "heappushpop"},
    "math": {"gcd", "lcm", "isqrt", "comb", "perm", "factorial"},
    "itertools": {
        "product", "combinations", "permutations", "chain", "accumulate", "pairwise", "islice", "zip_longest",
    },
    "collections": {"defaultdict", "deque"},
}
BUILTINS = set(
    "len range enumerate zip map min max sum abs sorted reversed int str bool bytes list tuple dict set isinstance ord "
    "repr any all divmod pow iter next getattr hasattr setattr type super property staticmethod classmethod "
    "Exception ValueError TypeError KeyError IndexError LookupError ZeroDivisionError ArithmeticError OverflowError "
    "RuntimeError NotImplementedError StopIteration NotImplemented".split()
)
BARRED = set("register mro elements open input law version_info with_traceback add_note".split())


class LanguageTest(unittest.TestCase):
    def test_the_folder_holds_nothing_but_its_files(self):
        for path in FOLDER.iterdir():
            if path.name != "__pycache__":
                self.assertEqual(path.suffix, ".py", path)
                self.assertEqual(path.name, path.name.lower())
        self.assertIn(FOLDER / "__init__.py", FILES)

    def test_sizes_and_characters(self):
        for path in FILES:
            text = path.read_text(encoding="utf-8")
            rows = text.splitlines()
            self.assertLessEqual(len(rows), 399, path)
            for number, row in enumerate(rows, start=1):
                self.assertLessEqual(len(row), 120, (path, number))
            self.assertTrue(all(sign == "\n" or " " <= sign <= "~" for sign in text), path)

    def test_functions_are_short(self):
        for path, node in nodes(ast.FunctionDef):
            self.assertLessEqual(node.end_lineno - node.lineno + 1, 40, (path, node.name))

    def test_imports(self):
        for path, node in nodes(ast.Import, ast.ImportFrom):
            self.assertIsInstance(node, ast.ImportFrom, (path, node.lineno))
            self.assertEqual(node.level, 0, (path, node.lineno))
            for name in node.names:
                if node.module in LIBRARY:
                    self.assertIn(name.name, LIBRARY[node.module], path)
                    self.assertIsNone(name.asname, path)
                else:
                    self.assertTrue(node.module.startswith("eventledger."), (path, node.module))

    def test_names(self):
        for path, node in nodes(ast.Name):
            if isinstance(node.ctx, ast.Store):
                self.assert_free(path, node.id)
            elif hasattr(builtins, node.id):
                self.assertIn(node.id, BUILTINS, (path, node.lineno))
        for path, node in nodes(ast.arg):
            self.assert_free(path, node.arg)

    def test_no_percent_sign_in_a_string(self):
        for path, node in nodes(ast.Constant):
            if isinstance(node.value, str):
                self.assertNotIn("%", node.value, (path, node.lineno))

    def test_nothing_that_the_subset_leaves_out(self):
        left_out = (
            ast.AsyncFunctionDef, ast.AsyncFor, ast.AsyncWith, ast.Await, ast.Div, ast.Global, ast.MatchMapping,
        )
        for path, node in nodes(*left_out):
            self.fail((path, node))
        for path, node in nodes(ast.Constant):
            self.assertNotIsInstance(node.value, (float, complex), (path, node.lineno))

    def assert_free(self, path, name):
        self.assertFalse(hasattr(builtins, name), (path, name))
        self.assertNotIn(name, BARRED, path)


def nodes(*sorts):
    """Each node of one of the sorts, with the name of its file."""
    return [
        (path.name, node)
        for path in FILES
        for node in ast.walk(ast.parse(path.read_text(encoding="utf-8")))
        if isinstance(node, sorts)
    ]


if __name__ == "__main__":
    unittest.main()
