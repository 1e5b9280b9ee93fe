"""Some rules of the Python subset for the package: those that are easily broken by accident."""

import ast
import builtins
import pathlib
import unittest

PACKAGE = pathlib.Path(__file__).resolve().parent.parent / "commondays"

BUILTINS = """
    len range enumerate zip min max sum abs sorted reversed int str bool list tuple dict set isinstance ord repr any all
    divmod map iter next getattr hasattr setattr type super property staticmethod classmethod NotImplemented ValueError
    TypeError KeyError IndexError LookupError
""".split()

METHODS = """
    append clear copy count endswith extend find get index insert isalnum isalpha isdigit islower isspace isupper items
    join keys ljust lower lstrip partition pop remove replace reverse rfind rjust rpartition rsplit rstrip setdefault
    split splitlines startswith strip update upper values zfill bit_length isascii isdecimal add discard
""".split()

LIBRARY = {
    "heapq": ["heappush", "heappop", "heapify"],
    "math": ["gcd", "lcm", "isqrt", "comb", "perm", "factorial"],
    "itertools": ["product", "combinations", "permutations", "chain", "accumulate", "pairwise"],
    "collections": ["defaultdict", "deque"],
}

OPERATORS = "__init__ __call__ __eq__ __len__ __contains__ __add__ __and__ __or__".split()


def files():
    return sorted(path for path in PACKAGE.rglob("*") if "__pycache__" not in path.parts)


def trees():
    return [(path, ast.parse(path.read_text())) for path in files()]


def nodes(kind):
    return [(path.name, node) for path, tree in trees() for node in ast.walk(tree) if isinstance(node, kind)]


class Rules(unittest.TestCase):
    def test_only_small_plain_files(self):
        for path in files():
            self.assertEqual(path.suffix, ".py")
            text = path.read_text()
            self.assertTrue(all(" " <= sign <= "~" or sign == "\n" for sign in text), path)
            self.assertLess(len(text.splitlines()), 400, path)
            self.assertLessEqual(max(map(len, text.splitlines())), 120, path)

    def test_small_functions_without_decorators_beside_those_of_methods(self):
        for name, node in nodes(ast.FunctionDef):
            self.assertLessEqual(node.end_lineno - node.lineno + 1, 40, (name, node.name))
            for word in node.decorator_list:
                self.assertIn(ast.unparse(word).split(".")[-1], ["property", "setter", "staticmethod", "classmethod"])

    def test_imports(self):
        self.assertEqual(nodes(ast.Import), [])
        for name, node in nodes(ast.ImportFrom):
            self.assertEqual(node.level, 0)
            if not node.module.startswith("commondays."):
                for word in node.names:
                    self.assertIn(word.name, LIBRARY.get(node.module, []), name)
                    self.assertIsNone(word.asname)

    def test_imports_are_used(self):
        for path, tree in trees():
            used = {node.id for node in ast.walk(tree) if isinstance(node, ast.Name)}
            for node in ast.walk(tree):
                if isinstance(node, ast.ImportFrom):
                    self.assertLessEqual({word.name for word in node.names}, used, path)

    def test_double_underscores(self):
        for name, node in nodes(ast.FunctionDef):
            if node.name.startswith("__"):
                self.assertIn(node.name, OPERATORS, (name, node.lineno))

    def test_lists_in_place_of_generator_expressions(self):
        # Beside classes with an own __eq__ they are not taken by any, all, min, max, sum and sorted.
        self.assertEqual(nodes(ast.GeneratorExp), [])

    def test_super_is_asked_for_methods(self):
        for path, tree in trees():
            asked = [node.value for node in ast.walk(tree) if isinstance(node, ast.Attribute)]
            for node in ast.walk(tree):
                if isinstance(node, ast.Call) and isinstance(node.func, ast.Name) and node.func.id == "super":
                    self.assertIn(node, asked, (path, node.lineno))

    def test_names(self):
        for name, node in nodes(ast.Name):
            if hasattr(builtins, node.id):
                self.assertIn(node.id, BUILTINS, (name, node.lineno))
        for name, node in nodes(ast.arg):
            self.assertFalse(hasattr(builtins, node.arg), (name, node.lineno))
        for name, node in nodes(ast.FunctionDef):
            if not node.name.startswith("__"):
                self.assertFalse(hasattr(builtins, node.name), (name, node.lineno))

    def test_methods(self):
        own = {node.name for _, node in nodes(ast.FunctionDef)}
        for name, node in nodes(ast.Call):
            if isinstance(node.func, ast.Attribute):
                self.assertIn(node.func.attr, {*METHODS, *own}, (name, node.lineno))

    def test_statements_and_values(self):
        for kind in (ast.AsyncFunctionDef, ast.Await, ast.Div):
            self.assertEqual(nodes(kind), [])
        for name, node in nodes(ast.Constant):
            self.assertNotIsInstance(node.value, (float, complex), (name, node.lineno))
            if isinstance(node.value, str):
                self.assertNotIn("%", node.value, (name, node.lineno))


if __name__ == "__main__":
    unittest.main()
