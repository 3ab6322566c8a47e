"""The package keeps to ../shared/LANGUAGE.md, as far as that can be seen by simple means."""

import ast
import builtins
import unittest
from pathlib import Path

import eventledger

FOLDER = Path(eventledger.__file__).parent
FILES = sorted(FOLDER.glob("*.py"))
LIBRARY = {
    "heapq": {"heappush", "heappop", "heapify", "heapreplace", "heappushpop"},
    "math": {"gcd", "lcm", "isqrt", "comb", "perm", "factorial"},
    "itertools": {
        "product", "combinations", "permutations", "chain", "accumulate", "pairwise", "islice", "zip_longest",
    },
    "collections": {"defaultdict", "deque"},
}
BUILTINS = set(
    "len range enumerate zip map min max sum abs sorted reversed int str bool bytes list tuple dict set isinstance ord "
    "repr any all divmod pow iter next getattr hasattr setattr type super property staticmethod classmethod "
    "Exception ValueError TypeError KeyError IndexError LookupError ZeroDivisionError ArithmeticError OverflowError "
    "RuntimeError NotImplementedError StopIteration NotImplemented".split()
)
BARRED = set("register mro elements open input law version_info with_traceback add_note".split())


class LanguageTest(unittest.TestCase):
    def test_the_folder_holds_nothing_but_its_files(self):
        for path in FOLDER.iterdir():
            if path.name != "__pycache__":
                self.assertEqual(path.suffix, ".py", path)
                self.assertEqual(path.name, path.name.lower())
        self.assertIn(FOLDER / "__init__.py", FILES)

    def test_sizes_and_characters(self):
        for path in FILES:
            text = path.read_text(encoding="utf-8")
            rows = text.splitlines()
            self.assertLessEqual(len(rows), 399, path)
            for number, row in enumerate(rows, start=1):
                self.assertLessEqual(len(row), 120, (path, number))
            self.assertTrue(all(sign == "\n" or " " <= sign <= "~" for sign in text), path)

    def test_functions_are_short(self):
        for path, node in nodes(ast.FunctionDef):
            self.assertLessEqual(node.end_lineno - node.lineno + 1, 40, (path, node.name))

    def test_imports(self):
        for path, node in nodes(ast.Import, ast.ImportFrom):
            self.assertIsInstance(node, ast.ImportFrom, (path, node.lineno))
            self.assertEqual(node.level, 0, (path, node.lineno))
            for name in node.names:
                if node.module in LIBRARY:
                    self.assertIn(name.name, LIBRARY[node.module], path)
                    self.assertIsNone(name.asname, path)
                else:
                    self.assertTrue(node.module.startswith("eventledger."), (path, node.module))

    def test_names(self):
        for path, node in nodes(ast.Name):
            if isinstance(node.ctx, ast.Store):
                self.assert_free(path, node.id)
            elif hasattr(builtins, node.id):
                self.assertIn(node.id, BUILTINS, (path, node.lineno))
        for path, node in nodes(ast.arg):
            self.assert_free(path, node.arg)

    def test_no_percent_sign_in_a_string(self):
        for path, node in nodes(ast.Constant):
            if isinstance(node.value, str):
                self.assertNotIn("%", node.value, (path, node.lineno))

    def test_nothing_that_the_subset_leaves_out(self):
        left_out = (
            ast.AsyncFunctionDef, ast.AsyncFor, ast.AsyncWith, ast.Await, ast.Div, ast.Global, ast.MatchMapping,
        )
        for path, node in nodes(*left_out):
            self.fail((path, node))
        for path, node in nodes(ast.Constant):
            self.assertNotIsInstance(node.value, (float, complex), (path, node.lineno))

    def test_module_level(self):
        for path in FILES:
            bound = []
            for node in tree_of(path).body:
                if isinstance(node, ast.ImportFrom):
                    bound.extend(name.name for name in node.names)
                elif isinstance(node, (ast.FunctionDef, ast.ClassDef)):
                    bound.append(node.name)
                elif isinstance(node, ast.Assign):
                    self.assertEqual([type(target) for target in node.targets], [ast.Name], (path, node.lineno))
                    bound.append(node.targets[0].id)
                else:
                    self.assertIsInstance(getattr(node, "value", None), ast.Constant, (path, node.lineno))
            self.assertEqual(sorted(bound), sorted(set(bound)), path)

    def test_local_names_are_no_imports_and_no_classes(self):
        for path in FILES:
            tree = tree_of(path)
            taken = {name.name for node in ast.walk(tree) if isinstance(node, ast.ImportFrom) for name in node.names}
            taken |= {node.name for node in tree.body if isinstance(node, ast.ClassDef)}
            for node in ast.walk(tree):
                if isinstance(node, ast.arg):
                    self.assertNotIn(node.arg, taken, path)
                if isinstance(node, ast.Name) and isinstance(node.ctx, ast.Store):
                    self.assertNotIn(node.id, taken, (path, node.lineno))

    def test_imports_name_the_file_that_defines_and_go_one_way(self):
        behind = {}
        for path in FILES:
            imports = [node for node in tree_of(path).body if isinstance(node, ast.ImportFrom)]
            own = [node for node in imports if node.module.startswith("eventledger.")]
            behind[path.stem] = {node.module.partition(".")[2] for node in own}
            for node in own:
                defined = names_of(FOLDER / f"{node.module.partition('.')[2]}.py")
                for name in node.names:
                    self.assertIn(name.name, defined, path)
        while behind:
            ready = {name for name, needed in behind.items() if not needed & set(behind)}
            self.assertTrue(ready, behind)
            behind = {name: needed for name, needed in behind.items() if name not in ready}

    def test_is_stands_beside_none_true_and_false(self):
        for path, node in nodes(ast.Compare):
            for operator, right in zip(node.ops, node.comparators):
                if isinstance(operator, (ast.Is, ast.IsNot)):
                    self.assertIsInstance(right, ast.Constant, (path, node.lineno))

    def test_names_are_plain(self):
        for path in FILES:
            for node in ast.walk(tree_of(path)):
                for field in ("id", "arg", "attr", "name"):
                    name = getattr(node, field, None)
                    if isinstance(name, str) and name not in ("__init__", "__eq__", "__len__", "__repr__", "__str__"):
                        self.assertRegex(name, "^_?[A-Za-z][A-Za-z0-9_]*$|^_$", (path, name))
                        self.assertNotRegex(name, "^_(wall|pe_|dcw_|enum_|cm_|twin_re_|lay_|law_|stub_|sre)", path)

    def test_sets_are_not_iterated(self):
        for path, node in nodes(ast.For, ast.comprehension):
            self.assertNotIsInstance(node.iter, (ast.Set, ast.SetComp), path)

    def assert_free(self, path, name):
        self.assertFalse(hasattr(builtins, name), (path, name))
        self.assertNotIn(name, BARRED, path)


def tree_of(path):
    return ast.parse(path.read_text(encoding="utf-8"))


def names_of(path):
    """The names that the file itself defines."""
    names = set()
    for node in tree_of(path).body:
        if isinstance(node, (ast.FunctionDef, ast.ClassDef)):
            names.add(node.name)
        elif isinstance(node, ast.Assign):
            names.add(node.targets[0].id)
    return names


def nodes(*sorts):
    """Each node of one of the sorts, with the name of its file."""
    return [
        (path.name, node)
        for path in FILES
        for node in ast.walk(tree_of(path))
        if isinstance(node, sorts)
    ]


if __name__ == "__main__":
    unittest.main()
