"""Some of the rules for the code of the package that a program can see: files, sizes, imports and signs."""

import ast
import builtins
import pathlib
import unittest

import crosshitch

FOLDER = pathlib.Path(crosshitch.__file__).parent
FILES = sorted(path for path in FOLDER.rglob("*") if path.is_file() and "__pycache__" not in path.parts)

LIBRARY = {
    "heapq": {"heappush", "heappop", "heapify", "heapreplace", "heappushpop"},
    "math": {"gcd", "lcm", "isqrt", "comb", "perm", "factorial"},
    "itertools": {"product", "combinations", "permutations", "chain", "accumulate", "pairwise", "islice",
                  "zip_longest"},
    "collections": {"defaultdict", "deque"},
    "__future__": {"annotations"},
}
BUILTINS = {
    "len", "range", "enumerate", "zip", "min", "max", "sum", "abs", "sorted", "reversed", "int", "str", "bool", "bytes",
    "list", "tuple", "dict", "set", "frozenset", "isinstance", "ord", "repr", "any", "all", "divmod", "pow", "getattr",
    "hasattr", "setattr", "iter", "next", "map", "type", "super", "property", "staticmethod", "classmethod",
    "Exception", "ValueError", "TypeError", "KeyError", "IndexError", "LookupError", "ZeroDivisionError",
    "ArithmeticError", "OverflowError", "RuntimeError", "NotImplementedError", "AttributeError", "StopIteration",
    "NotImplemented", "print", "object", "float",
}


class Form(unittest.TestCase):
    def trees(self):
        for path in FILES:
            yield path, ast.parse(path.read_text(encoding="ascii"))

    def test_files(self):
        self.assertIn(FOLDER / "__init__.py", FILES)
        for path in FILES:
            self.assertEqual(path.suffix, ".py", path)
            self.assertEqual(path.name, path.name.lower())

    def test_signs_and_sizes(self):
        for path in FILES:
            text = path.read_bytes().decode("ascii")
            self.assertEqual([sign for sign in text if sign != "\n" and not " " <= sign <= "~"], [], path)
            self.assertLess(text.count("\n"), 400, path)
            for line in text.split("\n"):
                self.assertLessEqual(len(line), 120, f"{path}: {line}")

    def test_functions_have_at_most_40_lines(self):
        for path, tree in self.trees():
            for node in ast.walk(tree):
                if isinstance(node, ast.FunctionDef):
                    self.assertLessEqual(node.end_lineno - node.lineno + 1, 40, f"{path}: {node.name}")

    def test_imports(self):
        for path, tree in self.trees():
            for node in ast.walk(tree):
                self.assertNotIsInstance(node, ast.Import, path)
                if isinstance(node, ast.ImportFrom):
                    self.assertEqual(node.level, 0, path)
                    names = {alias.name for alias in node.names}
                    if node.module in LIBRARY:
                        self.assertLessEqual(names, LIBRARY[node.module], path)
                    else:
                        self.assertTrue(node.module.startswith("crosshitch."), f"{path}: {node.module}")
                        self.assertNotIn("*", names, path)

    def test_no_floats_and_no_other_builtins(self):
        for path, tree in self.trees():
            for node in ast.walk(tree):
                self.assertNotIsInstance(node, (ast.Div, ast.AsyncFunctionDef, ast.Await), path)
                if isinstance(node, ast.Constant):
                    self.assertNotIsInstance(node.value, (float, complex), path)
                # Where doctest has shown a value, `_` has become a builtin name.
                if isinstance(node, ast.Name) and node.id != "_" and hasattr(builtins, node.id):
                    self.assertIn(node.id, BUILTINS, f"{path}: line {node.lineno}")


if __name__ == "__main__":
    unittest.main()
