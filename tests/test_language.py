"""What a look at the files of the package can show of ../shared/LANGUAGE.md; the rest is read by people."""

import ast
import pathlib
import re
import unittest
import warnings

PACKAGE = pathlib.Path(__file__).resolve().parent.parent / "callchain"
BUILTINS = set(
    "len range enumerate zip min max sum abs sorted reversed int str bool bytes list tuple dict set frozenset "
    "isinstance ord repr any all divmod Exception ValueError TypeError KeyError IndexError LookupError "
    "ZeroDivisionError ArithmeticError OverflowError RuntimeError NotImplementedError AttributeError StopIteration "
    "NotImplemented".split()
)
BARRED_WORDS = (
    "type typing typing_extensions enum Enum IntEnum StrEnum Flag IntFlag Generic Protocol ABC ABCMeta namedtuple "
    "NamedTuple TypedDict TYPE_CHECKING abstractmethod"
).split()
BARRED_PARTS = ["dataclass", "overload", "contextmanager"]
BARRED_NODES = (
    ast.Global, ast.AsyncFunctionDef, ast.AsyncFor, ast.AsyncWith, ast.Await, ast.Div, ast.MatMult, ast.Import,
)
BUILTIN_METHODS = (
    "append clear copy count endswith extend find get index insert isalnum isalpha isdigit islower isspace isupper items "
    "join keys ljust lower lstrip partition pop remove replace reverse rfind rjust rpartition rsplit rstrip setdefault "
    "split splitlines startswith strip update upper values zfill bit_length add discard"
).split()
DOUBLE_UNDERSCORED = ["__init__", "__eq__", "__repr__", "__str__", "__len__"]
PYTHONS_OWN = set(dir(__builtins__) if not isinstance(__builtins__, dict) else __builtins__)


def files():
    return sorted(PACKAGE.glob("*.py"))


def trees():
    return [(path.name, ast.parse(path.read_text(encoding="utf-8"))) for path in files()]


def bound_names(tree):
    """The names that a file binds itself, at whatever level."""
    names = []
    for node in ast.walk(tree):
        if isinstance(node, ast.Name) and isinstance(node.ctx, ast.Store):
            names.append(node.id)
        elif isinstance(node, (ast.FunctionDef, ast.ClassDef)):
            names.append(node.name)
        elif isinstance(node, ast.arg):
            names.append(node.arg)
        elif isinstance(node, ast.alias):
            names.append(node.asname or node.name)
    return names


def local_names(tree):
    """The names that the functions of a file bind."""
    names = []
    for node in ast.walk(tree):
        if isinstance(node, (ast.FunctionDef, ast.Lambda)):
            for inner in ast.walk(node):
                if isinstance(inner, ast.Name) and isinstance(inner.ctx, ast.Store):
                    names.append(inner.id)
                elif isinstance(inner, ast.arg):
                    names.append(inner.arg)
    return names


def defined_in(tree):
    """The names that a file defines at module level, without those of imports."""
    names = [node.name for node in tree.body if isinstance(node, (ast.FunctionDef, ast.ClassDef))]
    return names + [node.targets[0].id for node in tree.body if isinstance(node, ast.Assign)]


def own_methods():
    """The names of the methods of all classes."""
    return [
        inner.name
        for name, tree in trees()
        for node in tree.body if isinstance(node, ast.ClassDef)
        for inner in node.body if isinstance(inner, ast.FunctionDef)
    ]


def attributes():
    """The names of the attributes that are assigned anywhere."""
    return [
        node.attr
        for name, tree in trees()
        for node in ast.walk(tree) if isinstance(node, ast.Attribute) and isinstance(node.ctx, ast.Store)
    ]


class FilesTest(unittest.TestCase):
    def test_only_python_files_lie_in_the_package(self):
        self.assertTrue((PACKAGE / "__init__.py").is_file())
        for path in PACKAGE.iterdir():
            if path.name != "__pycache__":
                self.assertRegex(path.name, r"^[a-z0-9_]+\.py$")

    def test_sizes(self):
        for path in files():
            lines = path.read_text(encoding="utf-8").split("\n")
            self.assertLessEqual(len(lines), 400, path.name)
            for at, line in enumerate(lines, start=1):
                self.assertLessEqual(len(line), 120, (path.name, at))
        for name, tree in trees():
            for node in ast.walk(tree):
                if isinstance(node, ast.FunctionDef):
                    self.assertLessEqual(node.end_lineno - node.lineno + 1, 40, (name, node.name))

    def test_characters(self):
        for path in files():
            self.assertIsNone(re.search(rb"[^ -~\n]", path.read_bytes()), path.name)

    def test_words(self):
        for path in files():
            text = path.read_text(encoding="utf-8")
            words = re.findall(r"\w+", text)
            for word in BARRED_WORDS:
                self.assertNotIn(word, words, path.name)
            for part in BARRED_PARTS:
                self.assertNotIn(part, text, path.name)

    def test_no_warnings(self):
        for path in files():
            with warnings.catch_warnings():
                warnings.simplefilter("error")
                compile(path.read_text(encoding="utf-8"), path.name, "exec")


class CodeTest(unittest.TestCase):
    def test_imports(self):
        for name, tree in trees():
            for node in ast.walk(tree):
                if isinstance(node, ast.ImportFrom):
                    self.assertIn(node, tree.body, name)
                    self.assertEqual(node.level, 0, name)
                    self.assertRegex(node.module, r"^callchain\.[a-z_]+$")
                    self.assertNotIn("*", [alias.name for alias in node.names])

    def test_imports_name_the_file_that_defines_and_go_one_way(self):
        defined = {name[:-3]: defined_in(tree) for name, tree in trees()}
        imported = {name[:-3]: [] for name, tree in trees()}
        for name, tree in trees():
            for node in tree.body:
                if isinstance(node, ast.ImportFrom):
                    module = node.module.split(".")[1]
                    imported[name[:-3]].append(module)
                    for alias in node.names:
                        self.assertIn(alias.name, defined[module], name)
        while imported:
            free = [name for name in imported if not any(other in imported for other in imported[name])]
            self.assertTrue(free, imported)
            imported = {name: imported[name] for name in imported if name not in free}

    def test_names_bound_once_at_module_level(self):
        for name, tree in trees():
            names = defined_in(tree)
            for node in tree.body:
                if isinstance(node, ast.ImportFrom):
                    names.extend(alias.asname or alias.name for alias in node.names)
            self.assertEqual(sorted(names), sorted(set(names)), name)

    def test_no_local_name_is_that_of_a_class_or_an_import(self):
        for name, tree in trees():
            taken = [node.name for node in tree.body if isinstance(node, ast.ClassDef)]
            for node in tree.body:
                if isinstance(node, ast.ImportFrom):
                    taken.extend(alias.asname or alias.name for alias in node.names)
            self.assertEqual([local for local in local_names(tree) if local in taken], [], name)

    def test_methods_and_attributes(self):
        methods, fields = own_methods(), attributes()
        self.assertEqual([name for name in methods if name in fields], [])
        for name in methods:
            if name.startswith("__"):
                self.assertIn(name, DOUBLE_UNDERSCORED)
        for name, tree in trees():
            for node in ast.walk(tree):
                if isinstance(node, ast.Attribute) and isinstance(node.ctx, ast.Load):
                    self.assertIn(node.attr, methods + fields + BUILTIN_METHODS, name)

    def test_barred_statements_and_values(self):
        for name, tree in trees():
            for node in ast.walk(tree):
                self.assertNotIsInstance(node, BARRED_NODES, name)
                if isinstance(node, ast.Constant):
                    self.assertNotIsInstance(node.value, (float, complex), name)
                    self.assertFalse(isinstance(node.value, str) and "%" in node.value, name)

    def test_names(self):
        for name, tree in trees():
            for bound in bound_names(tree):
                if not (bound.startswith("__") and bound.endswith("__")):
                    self.assertRegex(bound, r"^[A-Za-z][A-Za-z0-9_]*$", name)
                    self.assertNotIn(bound, PYTHONS_OWN, name)

    def test_builtins(self):
        for name, tree in trees():
            bound = set(bound_names(tree))
            for node in ast.walk(tree):
                if isinstance(node, ast.Name) and node.id not in bound:
                    self.assertIn(node.id, BUILTINS, name)

    def test_is_only_with_none_true_and_false(self):
        for name, tree in trees():
            for node in ast.walk(tree):
                if isinstance(node, ast.Compare):
                    for sign, right in zip(node.ops, node.comparators):
                        if isinstance(sign, (ast.Is, ast.IsNot)):
                            self.assertIsInstance(right, ast.Constant, name)
                            self.assertIn(right.value, (None, True, False), name)

    def test_module_level(self):
        allowed = (ast.ImportFrom, ast.FunctionDef, ast.ClassDef, ast.Assign, ast.Expr)
        for name, tree in trees():
            for node in tree.body:
                self.assertIsInstance(node, allowed, name)
                if isinstance(node, ast.Expr):
                    self.assertEqual(node, tree.body[0], name)
                    self.assertIsInstance(node.value, ast.Constant, name)


if __name__ == "__main__":
    unittest.main()
