"""Rules of the language of the package that can be checked by looking at its files."""

import ast
import builtins
import pathlib
import unittest
import warnings

PACKAGE = pathlib.Path(__file__).resolve().parent.parent / "feedreader"
BUILTINS = set(
    "len range enumerate zip min max sum abs sorted reversed int str bool bytes list tuple dict set frozenset isinstance ord "
    "repr any all divmod pow getattr hasattr setattr iter next type map super property staticmethod classmethod "
    "Exception ValueError TypeError KeyError IndexError LookupError ZeroDivisionError ArithmeticError OverflowError "
    "RuntimeError NotImplementedError AttributeError StopIteration NotImplemented True False None".split()
)
METHODS = set(
    "append clear copy count endswith extend find get index insert isalnum isalpha isdigit islower isspace isupper items "
    "join keys ljust lower lstrip partition pop remove replace reverse rfind rjust rpartition rsplit rstrip setdefault "
    "split splitlines startswith strip update upper values zfill bit_length title capitalize swapcase casefold center "
    "expandtabs removeprefix removesuffix rindex isascii isdecimal isnumeric istitle isidentifier isprintable translate "
    "add discard sort format maketrans".split()
)
# Python's prompt, which the examples of README.md run like, puts a name "_" among the builtins.
ALL_BUILTINS = set(dir(builtins)) - {"_"}
OUTSIDE = ("__future__", "heapq", "math", "itertools", "collections")
WORDS = "typing typing_extensions enum Enum IntEnum StrEnum Flag IntFlag Generic Protocol ABC ABCMeta namedtuple".split()
FUNCTIONS = (ast.FunctionDef, ast.Lambda)
TOP = (ast.ImportFrom, ast.FunctionDef, ast.ClassDef, ast.Assign)
MODIFYING = set("append clear extend insert pop remove reverse setdefault update sort add discard".split())
NEW_VALUES = (ast.List, ast.Dict, ast.Set, ast.ListComp, ast.DictComp, ast.SetComp)
NEW_CALLS = ("list", "dict", "set", "sorted")


def files():
    """The files of the package with their texts and trees."""
    paths = [path for path in PACKAGE.rglob("*") if path.is_file() and "__pycache__" not in path.parts]
    return [(path, path.read_text("ascii"), ast.parse(path.read_text("ascii"))) for path in sorted(paths)]


def is_docstring(node):
    """Whether it is a text that stands alone."""
    return isinstance(node, ast.Expr) and isinstance(node.value, ast.Constant) and isinstance(node.value.value, str)


def is_new(node):
    """Whether it makes a new list, dict or set."""
    if isinstance(node, ast.Call):
        return isinstance(node.func, ast.Name) and node.func.id in NEW_CALLS
    return isinstance(node, NEW_VALUES) or isinstance(node, ast.Subscript) and isinstance(node.slice, ast.Slice)


def root_of(node):
    """What stands in front of the items, attributes and calls of an expression."""
    while isinstance(node, (ast.Subscript, ast.Attribute, ast.Call)):
        node = node.func if isinstance(node, ast.Call) else node.value
    return node


def values_of(function):
    """By local names of a function: what is assigned to them."""
    values = {arg.arg: [None] for arg in ast.walk(function.args) if isinstance(arg, ast.arg)}
    for node in ast.walk(function):
        if isinstance(node, ast.Assign):
            for goal in node.targets:
                for name in ast.walk(goal):
                    if isinstance(name, ast.Name) and isinstance(name.ctx, ast.Store):
                        values.setdefault(name.id, []).append(node.value if name is goal else None)
        elif isinstance(node, (ast.For, ast.comprehension)):
            for name in ast.walk(node.target):
                if isinstance(name, ast.Name):
                    values.setdefault(name.id, []).append(None)
    return values


def sets_of(function):
    """The local names of a function to which sets are assigned."""
    kinds = (ast.Set, ast.SetComp)
    return {name for name, values in values_of(function).items() if any(
        isinstance(value, kinds) or isinstance(value, ast.Call) and isinstance(value.func, ast.Name) and value.func.id == "set"
        for value in values)}


class LanguageTest(unittest.TestCase):
    def each_node(self, *kinds):
        for path, _, tree in files():
            for node in ast.walk(tree):
                if isinstance(node, kinds):
                    yield f"{path.name}:{getattr(node, 'lineno', 0)}", node

    def test_files(self):
        for path, text, _ in files():
            self.assertRegex(path.name, r"\A[a-z_][a-z0-9_]*\.py\Z")
            self.assertLessEqual(text.count("\n"), 399, path)
            self.assertTrue(all(sign == "\n" or " " <= sign <= "~" for sign in text), path)
            for line in text.split("\n"):
                self.assertLessEqual(len(line), 120, f"{path}: {line}")

    def test_python_warns_of_nothing(self):
        with warnings.catch_warnings():
            warnings.simplefilter("error")
            for path, text, _ in files():
                compile(text, str(path), "exec")

    def test_lengths_of_functions(self):
        for place, node in self.each_node(ast.FunctionDef):
            self.assertLessEqual(node.end_lineno - node.lineno + 1, 40, place)

    def test_module_level(self):
        for path, _, tree in files():
            names = []
            for node in tree.body:
                self.assertTrue(isinstance(node, TOP) or is_docstring(node), f"{path}:{node.lineno}")
                if isinstance(node, ast.Assign):
                    self.assertEqual([type(goal) for goal in node.targets], [ast.Name], f"{path}:{node.lineno}")
                    names.append(node.targets[0].id)
                elif isinstance(node, ast.ImportFrom):
                    names.extend(alias.asname or alias.name for alias in node.names)
                elif not is_docstring(node):
                    names.append(node.name)
            self.assertEqual(sorted(names), sorted(set(names)), path)
            self.assertEqual([name for name in names if name in ALL_BUILTINS], [], path)

    def test_imports(self):
        defined = {path.stem: {node.name for node in tree.body if hasattr(node, "name")} | {
            node.targets[0].id for node in tree.body if isinstance(node, ast.Assign)} for path, _, tree in files()}
        for place, node in self.each_node(ast.Import, ast.ImportFrom):
            self.assertIsInstance(node, ast.ImportFrom, place)
            self.assertEqual(node.level, 0, place)
            if node.module not in OUTSIDE:
                package, _, name = node.module.partition(".")
                self.assertEqual(package, "feedreader", place)
                self.assertEqual([a.name for a in node.names if a.name not in defined[name]], [], place)

    def test_statements_and_signs(self):
        barred = (ast.Global, ast.AsyncFunctionDef, ast.Await, ast.Div, ast.MatMult)
        for place, node in self.each_node(*barred):
            self.fail(f"{place}: {node}")
        for place, node in self.each_node(ast.Constant):
            self.assertNotIsInstance(node.value, (float, complex), place)
            if isinstance(node.value, str):
                self.assertNotIn("\x25", node.value, place)

    def test_names(self):
        own = {node.name for _, node in self.each_node(ast.FunctionDef)}
        for place, node in self.each_node(ast.Name):
            self.assertFalse(node.id in ALL_BUILTINS and node.id not in BUILTINS, f"{place}: {node.id}")
            self.assertFalse(node.id in ALL_BUILTINS and isinstance(node.ctx, ast.Store), f"{place}: {node.id}")
            self.assertNotIn(node.id, WORDS, place)
        for place, node in self.each_node(ast.arg):
            self.assertNotIn(node.arg, ALL_BUILTINS, place)
        for place, node in self.each_node(ast.Call):
            if isinstance(node.func, ast.Attribute):
                self.assertIn(node.func.attr, METHODS | own | {"__init__"}, place)

    def test_expressions(self):
        for place, node in self.each_node(ast.GeneratorExp, ast.AnnAssign, ast.Assert, ast.Starred):
            self.assertIsInstance(node, ast.Starred, place)
        for place, node in self.each_node(ast.Compare):
            for sign, right in zip(node.ops, node.comparators):
                if isinstance(sign, (ast.Is, ast.IsNot)):
                    self.assertTrue(isinstance(right, ast.Constant) and right.value in (None, True, False), place)

    def test_no_name_is_a_property_and_something_else(self):
        functions = list(self.each_node(ast.FunctionDef))
        properties = {node.name for _, node in functions if node.decorator_list}
        for place, node in functions:
            self.assertTrue(node.decorator_list or node.name not in properties, f"{place}: {node.name}")
        for place, node in self.each_node(ast.Attribute):
            self.assertFalse(isinstance(node.ctx, ast.Store) and node.attr in properties, f"{place}: {node.attr}")
            self.assertFalse(isinstance(node.ctx, ast.Store) and node.attr in METHODS - {"count", "index", "title"}, place)

    def test_names_begin_as_they_may(self):
        barred = ("_wall", "_pe_", "_dcw_", "_enum_", "_cm_", "_twin_re_", "_lay_", "_law_", "_stub_", "_sre", "_cold", "_record")
        for place, node in self.each_node(ast.Name, ast.FunctionDef, ast.Attribute, ast.arg):
            name = getattr(node, "id", None) or getattr(node, "name", None) or getattr(node, "attr", None) or node.arg
            self.assertFalse(name.startswith(barred), f"{place}: {name}")

    def reached(self, starts):
        """All functions and methods that these call, by name, also those of properties that they read."""
        functions = {}
        for _, _, tree in files():
            for node in ast.walk(tree):
                if isinstance(node, ast.FunctionDef):
                    functions.setdefault(node.name, []).append(node)
                elif isinstance(node, ast.ClassDef):
                    functions.setdefault(node.name, []).extend(
                        inner for inner in node.body if isinstance(inner, ast.FunctionDef) and inner.name == "__init__")
        found = list(starts)
        for function in found:
            names = [node.func.id for node in ast.walk(function) if isinstance(node, ast.Call) and isinstance(node.func, ast.Name)]
            names += [node.attr for node in ast.walk(function) if isinstance(node, ast.Attribute)]
            found += [other for name in names for other in functions.get(name, ()) if other not in found]
        return found

    def test_properties_and_operators_change_nothing_but_what_they_made(self):
        starts = [node for _, node in self.each_node(ast.FunctionDef)
                  if node.decorator_list or node.name.startswith("__") and node.name != "__init__"]
        self.assertGreater(len(starts), 30)
        for function in self.reached(starts):
            values = values_of(function)
            made = {name for name in values if all(value is not None and is_new(value) for value in values[name])}
            objects = {name for name in values if all(isinstance(value, ast.Call) for value in values[name])} - made
            for node in ast.walk(function):
                place = f"{function.name}:{getattr(node, 'lineno', 0)}"
                if isinstance(node, ast.Attribute) and isinstance(node.ctx, ast.Store):
                    kept = ast.unparse(node) == "self._gathered" and function.name == "gathered"
                    own = function.name == "__init__" and ast.unparse(node.value) == "self"
                    self.assertTrue(kept or own or ast.unparse(node.value) in objects, place)
                elif isinstance(node, ast.Subscript) and not isinstance(node.ctx, ast.Load):
                    self.assertTrue(isinstance(node.value, ast.Name) and node.value.id in made, place)
                elif isinstance(node, ast.Call) and isinstance(node.func, ast.Attribute) and node.func.attr in MODIFYING:
                    root = root_of(node.func)
                    self.assertTrue(isinstance(root, ast.Name) and root.id in made, place)

    def test_kept_sets_are_only_asked(self):
        for place, function in self.each_node(ast.FunctionDef):
            for name in sets_of(function):
                self.assertEqual(len(values_of(function)[name]), 1, f"{place}: {name}")
                asked = set()
                for node in ast.walk(function):
                    if isinstance(node, ast.Compare) and isinstance(node.ops[-1], (ast.In, ast.NotIn)):
                        asked.add(node.comparators[-1])
                    elif isinstance(node, ast.Call) and isinstance(node.func, ast.Attribute) and node.func.attr in ("add", "discard"):
                        asked.add(node.func.value)
                for node in ast.walk(function):
                    if isinstance(node, ast.Name) and node.id == name and isinstance(node.ctx, ast.Load):
                        self.assertIn(node, asked, f"{place}: {name}")

    def test_sets_that_are_not_kept(self):
        for path, _, tree in files():
            allowed = set()
            for node in ast.walk(tree):
                if isinstance(node, ast.Call) and isinstance(node.func, ast.Name) and node.func.id in ("sorted", "len"):
                    allowed.update(node.args)
                elif isinstance(node, ast.Compare):
                    allowed.update(node.comparators)
                elif isinstance(node, ast.Assign):
                    allowed.add(node.value)
            for node in ast.walk(tree):
                is_set = isinstance(node, ast.Call) and isinstance(node.func, ast.Name) and node.func.id == "set"
                if is_set or isinstance(node, (ast.Set, ast.SetComp)):
                    self.assertIn(node, allowed, f"{path}:{node.lineno}")

    def test_finally(self):
        for place, node in self.each_node(ast.Try):
            for statement in node.finalbody:
                self.assertIsInstance(statement, ast.Assign, place)
                for inner in ast.walk(statement):
                    self.assertIsInstance(inner, (ast.Assign, ast.Tuple, ast.Attribute, ast.Name, ast.Constant, ast.expr_context), place)

    def test_handlers(self):
        caught = ("KeyError", "ZeroDivisionError", "StopIteration", "ValueError", "LookupError", "IndexError")
        for place, node in self.each_node(ast.ExceptHandler):
            names = node.type.elts if isinstance(node.type, ast.Tuple) else [node.type]
            for name in names:
                self.assertIsInstance(name, ast.Name, place)
                self.assertTrue(name.id in caught or name.id not in ALL_BUILTINS, place)


if __name__ == "__main__":
    unittest.main()
