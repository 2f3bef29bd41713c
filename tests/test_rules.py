"""The rules of the language that can be measured: files, sizes, signs and what is imported."""

import ast
import builtins
import pathlib
import re
import unittest

PACKAGE = pathlib.Path(__file__).resolve().parent.parent / "dialweir"
FILES = sorted(path for path in PACKAGE.rglob("*.py"))
LIBRARY = {
    "__future__": {"annotations"},
    "heapq": {"heappush", "heappop", "heapify", "heapreplace", "heappushpop"},
    "math": {"gcd", "lcm", "isqrt", "comb", "perm", "factorial"},
    "itertools": {
        "product", "combinations", "permutations", "chain", "accumulate", "pairwise", "islice", "zip_longest",
    },
    "collections": {"defaultdict"},
}
# The builtins that the package uses, all of them granted.
BUILTINS = {
    "len", "range", "enumerate", "zip", "min", "max", "sum", "abs", "sorted", "reversed", "int", "str", "bool", "list",
    "tuple", "dict", "set", "isinstance", "any", "all", "ValueError",
}


def trees():
    return [(path, ast.parse(path.read_text(encoding="ascii"))) for path in FILES]


def imported(tree):
    return {node.module for node in ast.walk(tree) if isinstance(node, ast.ImportFrom)}


class RulesTest(unittest.TestCase):
    def test_the_folder_holds_plain_files_alone(self):
        there = [path for path in PACKAGE.rglob("*") if path.is_file() and path.parent.name != "__pycache__"]
        self.assertEqual(sorted(there), FILES)
        for path in FILES:
            self.assertRegex(path.name, r"\A[a-z0-9_]+\.py\Z")

    def test_signs_and_sizes(self):
        for path in FILES:
            text = path.read_bytes().decode("ascii")
            with self.subTest(path.name):
                self.assertIsNone(re.search(r"[^\n -~]", text))
                lines = text.splitlines()
                self.assertLessEqual(len(lines), 399)
                self.assertLessEqual(max(map(len, lines), default=0), 120)

    def test_functions_are_small(self):
        for path, tree in trees():
            for node in ast.walk(tree):
                if isinstance(node, ast.FunctionDef):
                    with self.subTest(f"{path.name} {node.name}"):
                        self.assertLessEqual(node.end_lineno - node.lineno + 1, 40)

    def test_words_and_signs(self):
        for path, tree in trees():
            for node in ast.walk(tree):
                with self.subTest(f"{path.name} {getattr(node, 'lineno', 0)}"):
                    self.assertNotIsInstance(node, (ast.Global, ast.AsyncFunctionDef, ast.NamedExpr, ast.GeneratorExp))
                    self.assertNotIsInstance(getattr(node, "op", None), ast.Div)
                    if isinstance(node, ast.Constant):
                        self.assertNotIsInstance(node.value, (float, complex))
                    if isinstance(node, ast.Compare) and isinstance(node.ops[0], (ast.Is, ast.IsNot)):
                        self.assertIsInstance(node.comparators[0], ast.Constant)
                    if isinstance(node, ast.Name) and hasattr(builtins, node.id):
                        self.assertIn(node.id, BUILTINS)
                        self.assertIsInstance(node.ctx, ast.Load)

    def test_names_of_imports_mean_nothing_else(self):
        for path, tree in trees():
            nodes = list(ast.walk(tree))
            brought = {name.name for node in nodes if isinstance(node, ast.ImportFrom) for name in node.names}
            used = {node.id for node in nodes if isinstance(node, ast.Name)}
            self.assertLessEqual(brought, used, path.name)
            bound = {node.id for node in nodes if isinstance(node, ast.Name) and isinstance(node.ctx, ast.Store)}
            bound |= {node.arg for node in nodes if isinstance(node, ast.arg)}
            classes = {node.name for node in nodes if isinstance(node, ast.ClassDef)}
            self.assertFalse(bound & (brought | classes | set(dir(builtins))), path.name)

    def test_no_name_is_a_method_and_an_attribute(self):
        methods, attributes = set(), set()
        for _, tree in trees():
            for node in ast.walk(tree):
                if isinstance(node, ast.ClassDef):
                    methods |= {part.name for part in node.body if isinstance(part, ast.FunctionDef)}
                if isinstance(node, ast.Attribute) and isinstance(node.ctx, ast.Store):
                    attributes.add(node.attr)
        self.assertFalse(methods & attributes)

    def test_imports(self):
        for path, tree in trees():
            with self.subTest(path.name):
                whole = [name.name for node in ast.walk(tree) if isinstance(node, ast.Import) for name in node.names]
                self.assertLessEqual(set(whole), {"sys"} if path.name == "__main__.py" else set())
                for node in ast.walk(tree):
                    if isinstance(node, ast.ImportFrom) and not node.module.startswith("dialweir."):
                        self.assertLessEqual({name.name for name in node.names}, LIBRARY.get(node.module, set()))

    def test_no_two_files_import_from_each_other(self):
        needed = {f"dialweir.{path.stem}": imported(tree) for path, tree in trees()}
        while needed:
            free = [name for name in needed if not needed[name] & set(needed)]
            self.assertTrue(free, f"a ring of imports among {sorted(needed)}")
            for name in free:
                del needed[name]


if __name__ == "__main__":
    unittest.main()
