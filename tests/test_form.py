"""Some of the rules for the code of the package that a program can see: files, sizes, imports and signs."""

import ast
import builtins
import pathlib
import re
import unittest

import crosshitch

FOLDER = pathlib.Path(crosshitch.__file__).parent
FILES = sorted(path for path in FOLDER.rglob("*") if path.is_file() and "__pycache__" not in path.parts)

LIBRARY = {
    "heapq": {"heappush", "heappop", "heapify", "heapreplace", "heappushpop"},
    "math": {"gcd", "lcm", "isqrt", "comb", "perm", "factorial"},
    "itertools": {"product", "combinations", "permutations", "chain", "accumulate", "pairwise", "islice",
                  "zip_longest"},
    "collections": {"defaultdict", "deque"},
    "__future__": {"annotations"},
}
BUILTINS = {
    "len", "range", "enumerate", "zip", "min", "max", "sum", "abs", "sorted", "reversed", "int", "str", "bool", "bytes",
    "list", "tuple", "dict", "set", "frozenset", "isinstance", "ord", "repr", "any", "all", "divmod", "pow", "getattr",
    "hasattr", "setattr", "iter", "next", "map", "type", "super", "property", "staticmethod", "classmethod",
    "Exception", "ValueError", "TypeError", "KeyError", "IndexError", "LookupError", "ZeroDivisionError",
    "ArithmeticError", "OverflowError", "RuntimeError", "NotImplementedError", "AttributeError", "StopIteration",
    "NotImplemented", "print", "object", "float",
}
INTERFACE = {
    "errors": "HitchError InvalidLayout InvalidRows InvalidRings InvalidOpens InvalidText TooMany Farther InvalidPieces "
              "InvalidEnd InvalidMove InvalidMoves InvalidSight InvalidNumber InvalidCommand NotBetween MixedWays "
              "NotFitting Clash NothingToUndo",
    "layouts": "is_layout count_layouts open_ends partner_of partners_of rows_of rings_of layout_of",
    "moves": "is_move moved moves_of count_moves kind_of",
    "overlay": "components_of fewest_moves shortest leads is_shortest",
    "lists": "good_moves count_shortest count_through nth_shortest shortest_index",
    "between": "is_between count_between counts_between all_between first_behind last_ahead",
    "shells": "counts_by_moves mean_moves nth_at index_at",
    "sights": "Sight",
    "yards": "Yard GoalYard",
    "texts": "show_layout show_move read_layout read_move",
    "console": "Console",
}
# What each class of the interface has to define by itself.
METHODS = {
    "Sight": "__init__ pieces known opens __contains__ __len__ __eq__ __add__ counts fewest most nth sure",
    "Yard": "__init__ pieces layout made __len__ move undo preview twin __eq__",
    "GoalYard": "__init__ goal spare left move undo preview twin __eq__ next_good",
    "Console": "__init__ execute",
}
PROPERTIES = {"Sight": "pieces known opens", "Yard": "pieces layout made", "GoalYard": "goal spare left", "Console": ""}


class Form(unittest.TestCase):
    def trees(self):
        for path in FILES:
            yield path, ast.parse(path.read_text(encoding="ascii"))

    def test_files(self):
        self.assertIn(FOLDER / "__init__.py", FILES)
        for path in FILES:
            self.assertEqual(path.suffix, ".py", path)
            self.assertEqual(path.name, path.name.lower())

    def test_signs_and_sizes(self):
        for path in FILES:
            text = path.read_bytes().decode("ascii")
            self.assertEqual([sign for sign in text if sign != "\n" and not " " <= sign <= "~"], [], path)
            self.assertLess(text.count("\n"), 400, path)
            for line in text.split("\n"):
                self.assertLessEqual(len(line), 120, f"{path}: {line}")

    def test_functions_have_at_most_40_lines(self):
        for path, tree in self.trees():
            for node in ast.walk(tree):
                if isinstance(node, ast.FunctionDef):
                    self.assertLessEqual(node.end_lineno - node.lineno + 1, 40, f"{path}: {node.name}")

    def test_imports(self):
        for path, tree in self.trees():
            for node in ast.walk(tree):
                self.assertNotIsInstance(node, ast.Import, path)
                if isinstance(node, ast.ImportFrom):
                    self.assertEqual(node.level, 0, path)
                    names = {alias.name for alias in node.names}
                    if node.module in LIBRARY:
                        self.assertLessEqual(names, LIBRARY[node.module], path)
                    else:
                        self.assertTrue(node.module.startswith("crosshitch."), f"{path}: {node.module}")
                        self.assertNotIn("*", names, path)

    def test_no_floats_and_no_other_builtins(self):
        for path, tree in self.trees():
            for node in ast.walk(tree):
                self.assertNotIsInstance(node, (ast.Div, ast.AsyncFunctionDef, ast.Await), path)
                if isinstance(node, ast.Constant):
                    self.assertNotIsInstance(node.value, (float, complex), path)
                # Where doctest has shown a value, `_` has become a builtin name.
                if isinstance(node, ast.Name) and node.id != "_" and hasattr(builtins, node.id):
                    self.assertIn(node.id, BUILTINS, f"{path}: line {node.lineno}")

    def test_interface(self):
        """Each function and class of the interface is defined in the file under which the document lists it."""
        for name, names in INTERFACE.items():
            tree = ast.parse((FOLDER / f"{name}.py").read_text(encoding="ascii"))
            defined = [node.name for node in tree.body if isinstance(node, (ast.FunctionDef, ast.ClassDef))]
            self.assertEqual([told for told in names.split() if told not in defined], [], name)

    def test_methods(self):
        """Each method that the document lists for a class is defined in that class itself."""
        classes = {node.name: node for _, tree in self.trees() for node in tree.body if isinstance(node, ast.ClassDef)}
        for name, methods in METHODS.items():
            defined = {node.name: node for node in classes[name].body if isinstance(node, ast.FunctionDef)}
            self.assertEqual([method for method in methods.split() if method not in defined], [], name)
            decorated = [method for method, node in defined.items() if node.decorator_list]
            self.assertEqual(decorated, PROPERTIES[name].split())

    def test_no_name_of_an_import_or_a_builtin_is_assigned(self):
        for path, tree in self.trees():
            imported = {alias.name for node in tree.body if isinstance(node, ast.ImportFrom) for alias in node.names}
            for node in ast.walk(tree):
                name = None
                if isinstance(node, ast.Name) and not isinstance(node.ctx, ast.Load):
                    name = node.id
                elif isinstance(node, ast.arg):
                    name = node.arg
                if name not in (None, "_"):
                    self.assertNotIn(name, imported, f"{path}: line {node.lineno}")
                    self.assertFalse(hasattr(builtins, name), f"{path}: line {node.lineno}: {name}")

    def test_each_import_and_each_function_is_used(self):
        texts = [path.read_text(encoding="ascii") for path in FILES]
        listed = " ".join(INTERFACE.values()).split()
        for path, tree in self.trees():
            used = {node.id for node in ast.walk(tree) if isinstance(node, ast.Name)}
            for node in tree.body:
                if isinstance(node, ast.ImportFrom):
                    self.assertEqual([alias.name for alias in node.names if alias.name not in used], [], path)
                if isinstance(node, ast.FunctionDef) and node.name not in listed:
                    many = sum(len(re.findall(rf"\b{node.name}\b", text)) for text in texts)
                    self.assertGreater(many, 1, f"{path}: {node.name}")


if __name__ == "__main__":
    unittest.main()
