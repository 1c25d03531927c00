"""The rules of LANGUAGE.md that can be seen in a file by itself; the others are kept by reading."""

import ast
import builtins
import pathlib
import re
import unittest

PACKAGE = pathlib.Path(__file__).resolve().parent.parent / "cellyard"

OWN_NAMES = set(
    "len range enumerate zip min max sum abs sorted reversed int str bool bytes list tuple dict set frozenset "
    "isinstance ord repr any all divmod Exception ValueError TypeError KeyError IndexError LookupError "
    "ZeroDivisionError ArithmeticError OverflowError RuntimeError NotImplementedError AttributeError "
    "StopIteration".split())
OWN_METHODS = {"__init__", "__eq__", "__repr__", "__str__", "__len__"}
WORDS_OUT = re.compile(
    r"\b(type|typing|typing_extensions|enum|Enum|IntEnum|StrEnum|Flag|IntFlag|Generic|Protocol|ABC|ABCMeta|"
    r"namedtuple|NamedTuple|TypedDict|TYPE_CHECKING|abstractmethod)\b|dataclass|overload|contextmanager")
NODES_OUT = (
    ast.With, ast.Match, ast.Global, ast.Nonlocal, ast.Yield, ast.YieldFrom, ast.Await, ast.AsyncFor,
    ast.AsyncWith, ast.AsyncFunctionDef, ast.GeneratorExp, ast.NamedExpr, ast.Div, ast.MatMult, ast.Import,
    ast.TryStar,
)
PLAIN_NAME = re.compile(r"[A-Za-z][A-Za-z0-9_]*")
# L25, without the later ones, which the program has no need of.
VALUE_METHODS = set(
    "append clear copy count endswith extend find get index insert isalnum isalpha isdigit islower isspace isupper "
    "items join keys ljust lower lstrip partition pop remove replace reverse rfind rjust rpartition rsplit rstrip "
    "setdefault split splitlines startswith strip update upper values zfill bit_length add discard".split())
WALKED_AT_ONCE = {"zip", "enumerate", "reversed", "range", "items", "keys", "values"}


def sources():
    """The package's files with their texts."""
    return [(path, path.read_text(encoding="utf-8")) for path in sorted(PACKAGE.rglob("*.py"))]


def names_in(tree):
    """Each name that stands in a tree, with its row."""
    for node in ast.walk(tree):
        for field in ("name", "id", "arg", "attr", "asname"):
            name = getattr(node, field, None)
            if isinstance(name, str) and not isinstance(node, ast.alias):
                yield name, getattr(node, "lineno", 0)


def classes():
    """Each class of the package."""
    return [node for path, text in sources() for node in ast.parse(text).body if isinstance(node, ast.ClassDef)]


def own_methods():
    """The names of all methods of the package's classes."""
    return {part.name for each in classes() for part in each.body if isinstance(part, ast.FunctionDef)}


def own_values():
    """The names of all values that are given to objects."""
    return {
        node.attr for path, text in sources() for node in ast.walk(ast.parse(text))
        if isinstance(node, ast.Attribute) and isinstance(node.ctx, ast.Store)}


def drawn_from():
    """For each module of the package those that it draws from."""
    return {
        "cellyard." + path.stem: [node.module for node in ast.parse(text).body if isinstance(node, ast.ImportFrom)]
        for path, text in sources()}


def top_names(tree):
    """The names that a file's top binds by defs, classes and values of its own."""
    made = [node.name for node in tree.body if isinstance(node, (ast.FunctionDef, ast.ClassDef))]
    return made + [target.id for node in tree.body if isinstance(node, ast.Assign) for target in node.targets]


class TestLanguage(unittest.TestCase):
    def test_only_files_of_python_with_plain_names(self):
        for path in PACKAGE.rglob("*"):
            if "__pycache__" not in path.parts:
                self.assertTrue(path.is_dir() or re.fullmatch(r"[a-z_][a-z0-9_]*\.py", path.name), path)
        self.assertTrue((PACKAGE / "__init__.py").is_file())

    def test_size(self):
        for path, text in sources():
            rows = text.split("\n")
            self.assertLessEqual(len(rows), 401, path)
            self.assertLessEqual(max(len(row) for row in rows), 120, path)
            for node in ast.walk(ast.parse(text)):
                if isinstance(node, ast.FunctionDef):
                    self.assertLessEqual(node.end_lineno - node.lineno + 1, 40, (path, node.name))

    def test_signs_and_words(self):
        for path, text in sources():
            self.assertEqual(re.findall(r"[^ -~\n]", text), [], path)
            self.assertIsNone(WORDS_OUT.search(text), path)

    def test_imports_are_of_the_package_and_at_the_top(self):
        for path, text in sources():
            tree = ast.parse(text)
            drawn = [node for node in ast.walk(tree) if isinstance(node, ast.ImportFrom)]
            for node in drawn:
                self.assertIn(node, tree.body, path)
                self.assertEqual(node.level, 0, path)
                self.assertTrue(node.module == "__future__" or node.module.startswith("cellyard."), path)
                self.assertNotIn("*", [alias.name for alias in node.names], path)

    def test_nothing_of_the_language_that_is_out(self):
        for path, text in sources():
            for node in ast.walk(ast.parse(text)):
                where = (path, getattr(node, "lineno", 0))
                self.assertNotIsInstance(node, NODES_OUT, where)
                self.assertFalse(getattr(node, "decorator_list", []), where)
                if isinstance(node, ast.Constant):
                    self.assertNotIsInstance(node.value, (float, complex), where)
                if isinstance(node, (ast.For, ast.While)):
                    self.assertEqual(node.orelse, [], where)
                if isinstance(node, ast.arguments):
                    self.assertEqual((node.vararg, node.kwarg, node.posonlyargs), (None, None, []), path)

    def test_is_stands_beside_none_and_truths_alone(self):
        for path, text in sources():
            for node in ast.walk(ast.parse(text)):
                if isinstance(node, ast.Compare):
                    for sign, right in zip(node.ops, node.comparators):
                        if isinstance(sign, (ast.Is, ast.IsNot)):
                            known = isinstance(right, ast.Constant) and right.value in (None, True, False)
                            self.assertTrue(known, (path, node.lineno))

    def test_plain_names(self):
        for path, text in sources():
            for name, row in names_in(ast.parse(text)):
                self.assertTrue(name in OWN_METHODS or PLAIN_NAME.fullmatch(name), (path, row, name))

    def test_pythons_own_names(self):
        for path, text in sources():
            for node in ast.walk(ast.parse(text)):
                if isinstance(node, ast.Name) and hasattr(builtins, node.id):
                    self.assertIn(node.id, OWN_NAMES, (path, node.lineno))
                    self.assertIsInstance(node.ctx, ast.Load, (path, node.lineno))
                if isinstance(node, ast.arg):
                    self.assertFalse(hasattr(builtins, node.arg), (path, node.lineno))

    def test_no_name_is_a_method_and_a_value(self):
        self.assertEqual(own_methods() & own_values(), set())

    def test_own_methods_and_values_are_called_like_none_of_pythons_own(self):
        taken = {name for kind in (str, int, list, tuple, dict, set, frozenset, bytes) for name in dir(kind)}
        self.assertEqual((own_methods() - OWN_METHODS | own_values()) & taken, set())

    def test_what_is_asked_of_a_thing_is_known(self):
        known = own_methods() | own_values() | VALUE_METHODS
        for path, text in sources():
            for node in ast.walk(ast.parse(text)):
                if isinstance(node, ast.Attribute):
                    self.assertIn(node.attr, known, (path, node.lineno))

    def test_methods_of_one_name_take_the_same(self):
        taken = {}
        for each in classes():
            for part in each.body:
                if isinstance(part, ast.FunctionDef) and part.name not in OWN_METHODS:
                    self.assertEqual(taken.setdefault(part.name, ast.dump(part.args)), ast.dump(part.args), part.name)

    def test_names_are_drawn_from_the_file_that_defines_them(self):
        tops = {"cellyard." + path.stem: top_names(ast.parse(text)) for path, text in sources()}
        for path, text in sources():
            drawn = [node for node in ast.parse(text).body if isinstance(node, ast.ImportFrom)]
            names = [alias.name for node in drawn for alias in node.names]
            for node in drawn:
                self.assertLessEqual({alias.name for alias in node.names}, set(tops[node.module]), path)
            bound = names + tops["cellyard." + path.stem]
            self.assertEqual(sorted(bound), sorted(set(bound)), path)
            asked = {node.id for node in ast.walk(ast.parse(text)) if isinstance(node, ast.Name)}
            self.assertLessEqual(set(names), asked, path)

    def test_no_files_draw_from_one_another(self):
        left = drawn_from()
        while left:
            free = [name for name in left if not set(left[name]) & set(left)]
            self.assertTrue(free, left)
            for name in free:
                del left[name]

    def test_no_local_is_called_like_a_name_of_the_files_top(self):
        for path, text in sources():
            tree = ast.parse(text)
            top = set(top_names(tree)) | {
                alias.name for node in tree.body if isinstance(node, ast.ImportFrom) for alias in node.names}
            for node in [part for row in tree.body if not isinstance(row, ast.Assign) for part in ast.walk(row)]:
                if isinstance(node, ast.arg):
                    self.assertNotIn(node.arg, top, (path, node.lineno))
                if isinstance(node, ast.Name) and isinstance(node.ctx, ast.Store):
                    self.assertNotIn(node.id, top, (path, node.lineno))

    def test_what_is_walked_at_once_is_not_kept(self):
        for path, text in sources():
            for node in ast.walk(ast.parse(text)):
                kept = getattr(node, "value", None) if isinstance(node, (ast.Assign, ast.Return)) else None
                if isinstance(kept, ast.Call):
                    name = getattr(kept.func, "id", getattr(kept.func, "attr", ""))
                    self.assertNotIn(name, WALKED_AT_ONCE, (path, node.lineno))


if __name__ == "__main__":
    unittest.main()
