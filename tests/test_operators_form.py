"""The form of what operators and properties run: it changes nothing that it is handed and calls nothing of it."""

import ast
import pathlib
import unittest

PACKAGE = pathlib.Path(__file__).resolve().parent.parent / "commondays"

# A call of an object and its __init__ may change things, so they are not among these.
QUIET = """
    __eq__ __ne__ __lt__ __le__ __gt__ __ge__ __len__ __str__ __repr__ __contains__ __getitem__ __bool__
    __add__ __sub__ __mul__ __and__ __or__ __xor__
""".split()

CHANGING = "append clear extend insert pop remove reverse setdefault sort update add discard".split()

CREATED = (ast.List, ast.Dict, ast.Set, ast.ListComp, ast.DictComp, ast.SetComp)
CREATORS = "list dict set sorted".split()


def package():
    return {path.stem: path.read_text() for path in sorted(PACKAGE.glob("*.py"))}


def is_property(node):
    return any(isinstance(word, ast.Name) and word.id == "property" for word in node.decorator_list)


def definitions(trees):
    """What each module name stands for: functions as lists of one node, classes as those of their methods."""
    found = {}
    for module, tree in trees.items():
        for node in tree.body:
            if isinstance(node, ast.FunctionDef):
                found[module, node.name] = [node]
            elif isinstance(node, ast.ClassDef):
                found[module, node.name] = [row for row in node.body if isinstance(row, ast.FunctionDef)]
    return found


def imported(tree):
    """The names that a module imports, with the modules that define them."""
    rows = [node for node in tree.body if isinstance(node, ast.ImportFrom) and node.module.startswith("commondays.")]
    return {word.name: row.module.split(".")[-1] for row in rows for word in row.names}


def methods(trees):
    """All methods as tuples (module, node)."""
    classes = [(module, node) for module, tree in trees.items() for node in tree.body if isinstance(node, ast.ClassDef)]
    return [(module, row) for module, node in classes for row in node.body if isinstance(row, ast.FunctionDef)]


def reached(trees):
    """The functions that operators and properties run, as tuples (module, node)."""
    known = definitions(trees)
    waiting = [(module, node) for module, node in methods(trees) if node.name in QUIET or is_property(node)]
    done = []
    while waiting:
        module, function = waiting.pop()
        if (module, function) in done:
            continue
        done.append((module, function))
        homes = imported(trees[module])
        for node in ast.walk(function):
            if isinstance(node, ast.Name) and (homes.get(node.id, module), node.id) in known:
                home = homes.get(node.id, module)
                rows = known[home, node.id]
                # Of a class, a call runs only this method.
                created = [row for row in rows if row.name in ("__init__", node.id)]
                waiting.extend((home, row) for row in created)
            elif isinstance(node, ast.Call) and isinstance(node.func, ast.Attribute):
                waiting.extend((home, row) for home, row in methods(trees) if row.name == node.func.attr)
    return done


def held(trees):
    """The names of all attributes that objects of the package hold."""
    nodes = [node for tree in trees.values() for node in ast.walk(tree) if isinstance(node, ast.Attribute)]
    return {node.attr for node in nodes if isinstance(node.ctx, ast.Store)}


def local_names(function):
    """The parameters and local variables of a function."""
    names = {node.arg for node in ast.walk(function) if isinstance(node, ast.arg)}
    stored = [node for node in ast.walk(function) if isinstance(node, ast.Name) and isinstance(node.ctx, ast.Store)]
    return names | {node.id for node in stored}


def is_created(value):
    """Whether an expression makes a new list, dict or set."""
    if isinstance(value, ast.Call):
        return isinstance(value.func, ast.Name) and value.func.id in CREATORS
    if isinstance(value, ast.BinOp):
        return is_created(value.left) or is_created(value.right)
    return isinstance(value, CREATED)


def own_names(function):
    """The local variables that only ever stand for what the function creates."""
    rows = [node for node in ast.walk(function) if isinstance(node, ast.Assign)]
    pairs = [(target, row.value) for row in rows for target in row.targets if isinstance(target, ast.Name)]
    created = {target.id for target, value in pairs if is_created(value)}
    counted = [node.id for node in ast.walk(function) if isinstance(node, ast.Name) and isinstance(node.ctx, ast.Store)]
    given = {node.arg for node in ast.walk(function) if isinstance(node, ast.arg)}
    whole = {
        name for name in created
        if counted.count(name) == sum(target.id == name and is_created(value) for target, value in pairs)
    }
    return whole - given


def is_fault(node, function, attributes):
    """Whether a part of a function calls or changes what the function is handed or what an object holds."""
    own = own_names(function)
    if isinstance(node, ast.Call) and isinstance(node.func, ast.Name):
        return node.func.id in local_names(function)
    if isinstance(node, ast.Call) and isinstance(node.func, ast.Attribute):
        owner, name = node.func.value, node.func.attr
        return name in attributes or (name in CHANGING and not (isinstance(owner, ast.Name) and owner.id in own))
    if isinstance(node, ast.Call):
        return True
    if isinstance(node, ast.Subscript) and not isinstance(node.ctx, ast.Load):
        return not (isinstance(node.value, ast.Name) and node.value.id in own)
    if isinstance(node, ast.Attribute) and not isinstance(node.ctx, ast.Load):
        # A new object gets its attributes.
        return function.name != "__init__" or not isinstance(node.value, ast.Name) or node.value.id != "self"
    return False


def faults(sources):
    """The places (module, function, row) of what operators and properties must not run."""
    trees = {module: ast.parse(text) for module, text in sources.items()}
    attributes = held(trees)
    return sorted({
        (module, function.name, ast.unparse(node))
        for module, function in reached(trees)
        for node in ast.walk(function) if is_fault(node, function, attributes)
    })


class Form(unittest.TestCase):
    def test_operators_and_properties_of_the_package(self):
        self.assertEqual(faults(package()), [])

    def test_they_reach_the_check_of_histories(self):
        trees = {module: ast.parse(text) for module, text in package().items()}
        names = {(module, function.name) for module, function in reached(trees)}
        for place in [
            ("objects", "__and__"), ("objects", "__or__"), ("objects", "__contains__"), ("objects", "__add__"),
            ("objects", "__init__"), ("together", "lesser"), ("together", "greater"), ("bounds", "keeps"),
            ("tables", "is_history"), ("tables", "_goes_on"), ("chains", "chain_table"), ("live", "possible_now"),
        ]:
            self.assertIn(place, names)


class FoundFaults(unittest.TestCase):
    """The look itself, at small pieces of code."""

    def look(self, *rows):
        text = "\n".join(["class Box:", *["    " + row for row in rows]])
        return [row for _, _, row in faults({"boxes": text})]

    def test_calls_of_what_is_handed_or_held(self):
        self.assertEqual(self.look("def __len__(self):", "    return self.rows()"), [])
        self.assertEqual(
            self.look("def __init__(self):", "    self.rows = 1", "def __len__(self):", "    return self.rows()"),
            ["self.rows()"],
        )
        self.assertEqual(self.look("def __add__(self, other):", "    return other(1)"), ["other(1)"])
        self.assertEqual(self.look("def __and__(self, other):", "    return other[0](1)"), ["other[0](1)"])

    def test_changes(self):
        self.assertEqual(self.look("def __or__(self, other):", "    other[0] = 1"), ["other[0]"])
        self.assertEqual(self.look("def __or__(self, other):", "    del other[0]"), ["other[0]"])
        self.assertEqual(self.look("def __or__(self, other):", "    self.n = other"), ["self.n"])
        self.assertEqual(self.look("def __or__(self, other):", "    other.append(1)"), ["other.append(1)"])
        self.assertEqual(
            self.look("def __or__(self, other):", "    mine = []", "    mine = other", "    mine.append(1)"),
            ["mine.append(1)"],
        )
        self.assertEqual(self.look("def __or__(self, other):", "    mine = []", "    mine.append(1)"), [])
        self.assertEqual(self.look("@property", "def many(self):", "    self.n = 1"), ["self.n"])

    def test_a_held_name_of_another_file(self):
        sources = {
            "errors": "class Bad(ValueError):\n    def __init__(self, index):\n        self.index = index\n",
            "tables": "def is_good(row):\n    return row.index(1) == 0\n",
            "objects": "\n".join([
                "from commondays.tables import is_good",
                "class Box:",
                "    def __init__(self, rows):",
                "        self._good = is_good(rows)",
                "    def __and__(self, other):",
                "        return Box([1])",
            ]),
        }
        self.assertEqual(faults(sources), [("tables", "is_good", "row.index(1)")])

    def test_what_is_called_on_the_way(self):
        text = "class Box:\n    def __len__(self):\n        return low([])\ndef low(xs):\n    xs.pop()\n    return 1\n"
        self.assertEqual(faults({"boxes": text}), [("boxes", "low", "xs.pop()")])
        calls = "class Box:\n    def __call__(self, xs):\n        xs.pop()\n"
        self.assertEqual(faults({"boxes": calls}), [])


if __name__ == "__main__":
    unittest.main()
