"""The form of the package's files, as far as a test can see it: rules of LANGUAGE.md, by their numbers."""

import ast
import builtins
import os
import re
import unittest

TOP = os.path.dirname(os.path.dirname(os.path.abspath(__file__)))
PACKAGE = os.path.join(TOP, "ringdown")

BUILTINS = set("""
    len range enumerate zip min max sum abs sorted reversed int str bool list tuple dict set frozenset isinstance ord
    repr any all divmod pow Exception ValueError TypeError KeyError IndexError LookupError ZeroDivisionError
    ArithmeticError OverflowError RuntimeError NotImplementedError
""".split())

METHODS = set("""
    append clear copy count endswith extend find get index insert isalnum isalpha isdigit islower isspace isupper items
    join keys ljust lower lstrip partition pop remove replace reverse rfind rjust rpartition rsplit rstrip setdefault
    split splitlines startswith strip update upper values zfill bit_length add discard
""".split())

KINDS = (
    ast.Module, ast.Expr, ast.ImportFrom, ast.alias, ast.FunctionDef, ast.ClassDef, ast.arguments, ast.arg, ast.Assign,
    ast.AugAssign, ast.If, ast.While, ast.For, ast.Return, ast.Break, ast.Continue, ast.Raise, ast.Try,
    ast.ExceptHandler, ast.Call, ast.keyword, ast.Name, ast.Attribute, ast.Subscript, ast.Slice, ast.Constant,
    ast.List, ast.Tuple, ast.Dict, ast.ListComp, ast.DictComp, ast.comprehension, ast.BinOp, ast.UnaryOp, ast.BoolOp,
    ast.Compare, ast.IfExp, ast.JoinedStr, ast.FormattedValue, ast.Delete, ast.Lambda, ast.expr_context, ast.operator,
    ast.unaryop, ast.boolop, ast.cmpop,
)

BARRED = re.compile(
    r"\b(type|typing|enum|Enum|Generic|Protocol|ABC|namedtuple|NamedTuple|TypedDict|abstractmethod|_wall)\b"
    r"|dataclass|overload|contextmanager|_WallAttr")
DOUBLE = ("__init__", "__eq__", "__len__", "__str__", "__repr__")
UNUSED = set("register mro elements open input law version_info with_traceback add_note".split())


def files():
    return sorted(os.listdir(PACKAGE))


def text_of(file):
    with open(os.path.join(PACKAGE, file), encoding="utf-8") as opened:
        return opened.read()


def trees():
    return {file: ast.parse(text_of(file)) for file in files() if file.endswith(".py")}


def doc_of(node):
    body = getattr(node, "body", None)
    if isinstance(node, (ast.Module, ast.ClassDef, ast.FunctionDef)) and ast.get_docstring(node, False) is not None:
        return body[0].value
    return None


def docs_in(tree):
    return [doc for doc in map(doc_of, ast.walk(tree)) if doc is not None]


def defined_in(tree):
    names = [node.name for node in tree.body if isinstance(node, (ast.FunctionDef, ast.ClassDef))]
    return names + [node.targets[0].id for node in tree.body if isinstance(node, ast.Assign)]


def imported_in(tree):
    return [alias.name for node in ast.walk(tree) if isinstance(node, ast.ImportFrom) for alias in node.names]


def locals_in(function):
    named = [node.id for node in ast.walk(function) if isinstance(node, ast.Name) and isinstance(node.ctx, ast.Store)]
    return named + [node.arg for node in ast.walk(function) if isinstance(node, ast.arg)]


def is_plain(node):
    if isinstance(node, (ast.List, ast.Tuple)):
        return all(is_plain(each) for each in node.elts)
    return isinstance(node, ast.Constant)


def is_table(node):
    """A dict of plain values, among which there is no list."""
    if not isinstance(node, ast.Dict) or any(isinstance(each, ast.List) for each in ast.walk(node)):
        return False
    return all(is_plain(each) for each in node.keys + node.values)


class Files(unittest.TestCase):
    def test_nothing_but_files_of_the_program(self):  # L1, L14
        for file in files():
            if file != "__pycache__":
                self.assertRegex(file, r"\A(__init__|[a-z][a-z0-9_]*)\.py\Z")
                self.assertFalse(file.startswith(("test", "law_", "site", "conftest")))
        self.assertIn("__init__.py", files())
        self.assertLessEqual(len(files()), 100)

    def test_sizes_and_signs(self):  # L10, L14, L12
        for file in trees():
            text = text_of(file)
            rows = text.split("\n")
            self.assertLessEqual(len(rows), 399, file)
            self.assertLessEqual(max(len(row) for row in rows), 120, file)
            self.assertTrue(all(sign == "\n" or " " <= sign <= "~" for sign in text), file)

    def test_sizes_of_functions(self):  # L10
        for file, tree in trees().items():
            for node in ast.walk(tree):
                if isinstance(node, ast.FunctionDef):
                    self.assertLessEqual(node.end_lineno - node.lineno + 1, 40, (file, node.name))

    def test_each_has_a_docstring(self):
        for file, tree in trees().items():
            for node in ast.walk(tree):
                if isinstance(node, (ast.Module, ast.ClassDef, ast.FunctionDef)):
                    if getattr(node, "name", "") != "__init__":
                        self.assertIsNotNone(doc_of(node), (file, getattr(node, "name", "")))


class Rows(unittest.TestCase):
    def test_kinds_of_rows(self):  # L6, L7
        for file, tree in trees().items():
            for node in ast.walk(tree):
                self.assertIsInstance(node, KINDS, (file, getattr(node, "lineno", 0)))
                self.assertNotIsInstance(node, (ast.Div, ast.MatMult), file)
                self.assertFalse(getattr(node, "decorator_list", []), file)

    def test_module_level(self):  # L3, L15
        for file, tree in trees().items():
            bound = defined_in(tree) + imported_in(tree)
            self.assertEqual(len(bound), len(set(bound)), file)
            for node in tree.body:
                if isinstance(node, ast.Assign):
                    self.assertTrue(len(node.targets) == 1 and isinstance(node.targets[0], ast.Name), file)
                    self.assertTrue(is_plain(node.value) or is_table(node.value), (file, node.lineno))
                elif isinstance(node, ast.Expr):
                    self.assertIs(node.value, doc_of(tree), file)
                else:
                    self.assertIsInstance(node, (ast.ImportFrom, ast.FunctionDef, ast.ClassDef), file)

    def test_imports(self):  # L2, L16
        every = trees()
        uses = {}
        for file, tree in every.items():
            uses[file] = []
            for node in ast.walk(tree):
                if isinstance(node, ast.ImportFrom):
                    self.assertIn(node, tree.body, file)
                    self.assertEqual(node.level, 0, file)
                    self.assertRegex(node.module, r"\Aringdown\.[a-z]+\Z")
                    other = node.module.split(".")[1] + ".py"
                    uses[file].append(other)
                    for alias in node.names:
                        self.assertIsNone(alias.asname, file)
                        self.assertIn(alias.name, defined_in(every[other]), file)
        done = []
        while len(done) < len(uses):
            free = [file for file in uses if file not in done and all(other in done for other in uses[file])]
            self.assertTrue(free, "files import from each other")
            done.extend(free)

    def test_imports_are_used(self):
        for file, tree in trees().items():
            used = [node.id for node in ast.walk(tree) if isinstance(node, ast.Name)]
            for name in imported_in(tree):
                self.assertIn(name, used, file)

    def test_names(self):  # L12, L15, L17
        for file, tree in trees().items():
            classes = [node.name for node in tree.body if isinstance(node, ast.ClassDef)]
            taken = set(imported_in(tree) + classes + defined_in(tree))
            for node in ast.walk(tree):
                if isinstance(node, ast.FunctionDef):
                    for name in locals_in(node):
                        self.assertNotIn(name, taken, (file, node.name))
                        self.assertFalse(hasattr(builtins, name), (file, node.name, name))
                        self.assertNotIn(name, UNUSED)
                if isinstance(node, (ast.FunctionDef, ast.ClassDef)) and node.name not in DOUBLE:
                    self.assertFalse(hasattr(builtins, node.name), (file, node.name))
                    self.assertFalse(node.name.startswith("__"), (file, node.name))
                    self.assertNotIn(node.name, UNUSED)
                if isinstance(node, ast.Attribute):
                    self.assertNotIn(node.attr, UNUSED)
                    self.assertFalse(node.attr.startswith("__") and node.attr != "__init__", file)

    def test_blank_name_is_never_read(self):  # L12
        for file, tree in trees().items():
            for node in ast.walk(tree):
                if isinstance(node, ast.Name) and node.id == "_":
                    self.assertIsInstance(node.ctx, ast.Store, file)

    def test_strings(self):  # L17, L27
        for file, tree in trees().items():
            docs = docs_in(tree)
            for node in ast.walk(tree):
                if isinstance(node, ast.Constant):
                    self.assertNotIsInstance(node.value, (float, complex, bytes), file)
                    if isinstance(node.value, str) and node not in docs:
                        self.assertNotIn("%", node.value, (file, node.lineno))
                        self.assertIsNone(BARRED.search(node.value), (file, node.lineno))
                if isinstance(node, ast.Name):
                    self.assertIsNone(BARRED.search(node.id), (file, node.lineno))


class Calls(unittest.TestCase):
    def test_builtins(self):  # L8
        for file, tree in trees().items():
            for node in ast.walk(tree):
                if isinstance(node, ast.Name) and hasattr(builtins, node.id):
                    self.assertIn(node.id, BUILTINS, (file, node.lineno))

    def test_methods(self):  # L25
        every = trees()
        own = {node.name for tree in every.values() for node in ast.walk(tree) if isinstance(node, ast.FunctionDef)}
        for file, tree in every.items():
            for node in ast.walk(tree):
                if isinstance(node, ast.Call) and isinstance(node.func, ast.Attribute):
                    self.assertIn(node.func.attr, METHODS | own, (file, node.lineno))

    def test_is(self):  # L20
        for file, tree in trees().items():
            for node in ast.walk(tree):
                if isinstance(node, ast.Compare) and any(isinstance(op, (ast.Is, ast.IsNot)) for op in node.ops):
                    right = node.comparators[-1]
                    self.assertTrue(isinstance(right, ast.Constant), (file, node.lineno))
                    self.assertIn(right.value, (None, True, False), (file, node.lineno))

    def test_zips_and_the_like_are_gone_through_at_once(self):  # L23
        for file, tree in trees().items():
            for node in ast.walk(tree):
                if isinstance(node, ast.Assign) and isinstance(node.value, ast.Call):
                    called = node.value.func
                    if isinstance(called, ast.Name):
                        self.assertNotIn(called.id, ("zip", "enumerate", "reversed", "map", "set"), (file, node.lineno))

    def test_what_is_raised_is_made_on_the_spot(self):  # L19
        for file, tree in trees().items():
            for node in ast.walk(tree):
                if isinstance(node, ast.Raise) and node.exc is not None:
                    self.assertIsInstance(node.exc, ast.Call, (file, node.lineno))
                    self.assertIsInstance(node.exc.func, ast.Name, (file, node.lineno))

    def test_defaults_are_plain(self):  # L4
        for file, tree in trees().items():
            for node in ast.walk(tree):
                if isinstance(node, ast.arguments):
                    for worth in node.defaults + [each for each in node.kw_defaults if each is not None]:
                        self.assertTrue(is_plain(worth) and not isinstance(worth, ast.List), file)


if __name__ == "__main__":
    unittest.main()
