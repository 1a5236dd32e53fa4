"""Rules of the language of the package that can be checked by looking at its files."""

import ast
import builtins
import pathlib
import unittest
import warnings

PACKAGE = pathlib.Path(__file__).resolve().parent.parent / "feedreader"
BUILTINS = set(
    "len range enumerate zip min max sum abs sorted reversed int str bool bytes list tuple dict set frozenset isinstance ord "
    "repr any all divmod pow getattr hasattr setattr iter next type map super property staticmethod classmethod "
    "Exception ValueError TypeError KeyError IndexError LookupError ZeroDivisionError ArithmeticError OverflowError "
    "RuntimeError NotImplementedError AttributeError StopIteration NotImplemented True False None".split()
)
METHODS = set(
    "append clear copy count endswith extend find get index insert isalnum isalpha isdigit islower isspace isupper items "
    "join keys ljust lower lstrip partition pop remove replace reverse rfind rjust rpartition rsplit rstrip setdefault "
    "split splitlines startswith strip update upper values zfill bit_length title capitalize swapcase casefold center "
    "expandtabs removeprefix removesuffix rindex isascii isdecimal isnumeric istitle isidentifier isprintable translate "
    "add discard sort format maketrans".split()
)
# Python's prompt, which the examples of README.md run like, puts a name "_" among the builtins.
ALL_BUILTINS = set(dir(builtins)) - {"_"}
OUTSIDE = ("__future__", "heapq", "math", "itertools", "collections")
WORDS = "typing typing_extensions enum Enum IntEnum StrEnum Flag IntFlag Generic Protocol ABC ABCMeta namedtuple".split()
FUNCTIONS = (ast.FunctionDef, ast.Lambda)
TOP = (ast.ImportFrom, ast.FunctionDef, ast.ClassDef, ast.Assign)


def files():
    """The files of the package with their texts and trees."""
    paths = [path for path in PACKAGE.rglob("*") if path.is_file() and "__pycache__" not in path.parts]
    return [(path, path.read_text("ascii"), ast.parse(path.read_text("ascii"))) for path in sorted(paths)]


def is_docstring(node):
    """Whether it is a text that stands alone."""
    return isinstance(node, ast.Expr) and isinstance(node.value, ast.Constant) and isinstance(node.value.value, str)


class LanguageTest(unittest.TestCase):
    def each_node(self, *kinds):
        for path, _, tree in files():
            for node in ast.walk(tree):
                if isinstance(node, kinds):
                    yield f"{path.name}:{getattr(node, 'lineno', 0)}", node

    def test_files(self):
        for path, text, _ in files():
            self.assertRegex(path.name, r"\A[a-z_][a-z0-9_]*\.py\Z")
            self.assertLessEqual(text.count("\n"), 399, path)
            self.assertTrue(all(sign == "\n" or " " <= sign <= "~" for sign in text), path)
            for line in text.split("\n"):
                self.assertLessEqual(len(line), 120, f"{path}: {line}")

    def test_python_warns_of_nothing(self):
        with warnings.catch_warnings():
            warnings.simplefilter("error")
            for path, text, _ in files():
                compile(text, str(path), "exec")

    def test_lengths_of_functions(self):
        for place, node in self.each_node(ast.FunctionDef):
            self.assertLessEqual(node.end_lineno - node.lineno + 1, 40, place)

    def test_module_level(self):
        for path, _, tree in files():
            names = []
            for node in tree.body:
                self.assertTrue(isinstance(node, TOP) or is_docstring(node), f"{path}:{node.lineno}")
                if isinstance(node, ast.Assign):
                    self.assertEqual([type(goal) for goal in node.targets], [ast.Name], f"{path}:{node.lineno}")
                    names.append(node.targets[0].id)
                elif isinstance(node, ast.ImportFrom):
                    names.extend(alias.asname or alias.name for alias in node.names)
                elif not is_docstring(node):
                    names.append(node.name)
            self.assertEqual(sorted(names), sorted(set(names)), path)
            self.assertEqual([name for name in names if name in ALL_BUILTINS], [], path)

    def test_imports(self):
        defined = {path.stem: {node.name for node in tree.body if hasattr(node, "name")} | {
            node.targets[0].id for node in tree.body if isinstance(node, ast.Assign)} for path, _, tree in files()}
        for place, node in self.each_node(ast.Import, ast.ImportFrom):
            self.assertIsInstance(node, ast.ImportFrom, place)
            self.assertEqual(node.level, 0, place)
            if node.module not in OUTSIDE:
                package, _, name = node.module.partition(".")
                self.assertEqual(package, "feedreader", place)
                self.assertEqual([a.name for a in node.names if a.name not in defined[name]], [], place)

    def test_statements_and_signs(self):
        barred = (ast.Global, ast.AsyncFunctionDef, ast.Await, ast.Div, ast.MatMult)
        for place, node in self.each_node(*barred):
            self.fail(f"{place}: {node}")
        for place, node in self.each_node(ast.Constant):
            self.assertNotIsInstance(node.value, (float, complex), place)
            if isinstance(node.value, str):
                self.assertNotIn("\x25", node.value, place)

    def test_names(self):
        own = {node.name for _, node in self.each_node(ast.FunctionDef)}
        for place, node in self.each_node(ast.Name):
            self.assertFalse(node.id in ALL_BUILTINS and node.id not in BUILTINS, f"{place}: {node.id}")
            self.assertFalse(node.id in ALL_BUILTINS and isinstance(node.ctx, ast.Store), f"{place}: {node.id}")
            self.assertNotIn(node.id, WORDS, place)
        for place, node in self.each_node(ast.arg):
            self.assertNotIn(node.arg, ALL_BUILTINS, place)
        for place, node in self.each_node(ast.Call):
            if isinstance(node.func, ast.Attribute):
                self.assertIn(node.func.attr, METHODS | own | {"__init__"}, place)

    def test_expressions(self):
        for place, node in self.each_node(ast.GeneratorExp, ast.AnnAssign, ast.Assert, ast.Starred):
            self.assertIsInstance(node, ast.Starred, place)
        for place, node in self.each_node(ast.Compare):
            for sign, right in zip(node.ops, node.comparators):
                if isinstance(sign, (ast.Is, ast.IsNot)):
                    self.assertTrue(isinstance(right, ast.Constant) and right.value in (None, True, False), place)

    def test_no_name_is_a_property_and_something_else(self):
        functions = list(self.each_node(ast.FunctionDef))
        properties = {node.name for _, node in functions if node.decorator_list}
        for place, node in functions:
            self.assertTrue(node.decorator_list or node.name not in properties, f"{place}: {node.name}")
        for place, node in self.each_node(ast.Attribute):
            self.assertFalse(isinstance(node.ctx, ast.Store) and node.attr in properties, f"{place}: {node.attr}")
            self.assertFalse(isinstance(node.ctx, ast.Store) and node.attr in METHODS - {"count", "index", "title"}, place)

    def test_names_begin_as_they_may(self):
        barred = ("_wall", "_pe_", "_dcw_", "_enum_", "_cm_", "_twin_re_", "_lay_", "_law_", "_stub_", "_sre", "_cold", "_record")
        for place, node in self.each_node(ast.Name, ast.FunctionDef, ast.Attribute, ast.arg):
            name = getattr(node, "id", None) or getattr(node, "name", None) or getattr(node, "attr", None) or node.arg
            self.assertFalse(name.startswith(barred), f"{place}: {name}")

    def test_handlers(self):
        caught = ("KeyError", "ZeroDivisionError", "StopIteration", "ValueError", "LookupError", "IndexError")
        for place, node in self.each_node(ast.ExceptHandler):
            names = node.type.elts if isinstance(node.type, ast.Tuple) else [node.type]
            for name in names:
                self.assertIsInstance(name, ast.Name, place)
                self.assertTrue(name.id in caught or name.id not in ALL_BUILTINS, place)


if __name__ == "__main__":
    unittest.main()
