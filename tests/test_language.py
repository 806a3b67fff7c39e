"""The package keeps to the rules of ../shared/LANGUAGE.md that can be told from its text.

These are the plain ones, each by its number; the others are for the reader.
"""

import ast
import builtins
import pathlib
import re
import unittest

PACKAGE = pathlib.Path(__file__).resolve().parent.parent / "boundgate"

BUILTINS = set(
    "len range enumerate zip min max sum abs sorted reversed int str bool bytes list tuple dict set frozenset "
    "isinstance ord repr any all divmod iter next super property staticmethod classmethod Exception ValueError "
    "TypeError KeyError IndexError LookupError ZeroDivisionError ArithmeticError OverflowError RuntimeError "
    "NotImplementedError AttributeError StopIteration NotImplemented".split()
)
BARRED_WORDS = re.compile(
    r"\b(type|typing|typing_extensions|enum|Enum|IntEnum|StrEnum|Flag|IntFlag|Generic|Protocol|ABC|ABCMeta|"
    r"namedtuple|NamedTuple|TypedDict|TYPE_CHECKING|abstractmethod)\b|dataclass|overload|contextmanager"
)
BARRED_NAMES = set(
    "register mro elements open input law version_info with_traceback add_note attrgetter breakpoint builtins "
    "compile copyright credits delattr dir eval exec exit gc getattr globals hasattr help id importlib license "
    "locals methodcaller os quit setattr sys type vars".split()
)
METHODS = set(
    "append clear copy count endswith extend find get index insert isalnum isalpha isdigit islower isspace isupper "
    "items join keys ljust lower lstrip partition pop remove replace reverse rfind rjust rpartition rsplit rstrip "
    "setdefault split splitlines startswith strip update upper values zfill bit_length title capitalize swapcase "
    "casefold center expandtabs removeprefix removesuffix rindex isascii isdecimal isnumeric istitle isidentifier "
    "isprintable add discard".split()
)
LAZY_CALLS = {"zip", "enumerate", "reversed", "range"}
LAZY_METHODS = {"items", "keys", "values"}
TAKERS = {"list", "tuple", "dict", "sorted", "sum", "any", "all", "enumerate", "zip", "min", "max"}
DOUBLE = re.compile(r"__[a-z]+__")


def files():
    return sorted(PACKAGE.rglob("*.py"))


def trees():
    return [(path, ast.parse(path.read_text())) for path in files()]


def nodes(kinds):
    return [(path, node) for path, tree in trees() for node in ast.walk(tree) if isinstance(node, kinds)]


def bound_names(tree):
    """All names that a file gives a meaning: variables, parameters, functions, classes, imports."""
    names = []
    for node in ast.walk(tree):
        if isinstance(node, ast.Name) and not isinstance(node.ctx, ast.Load):
            names.append(node.id)
        elif isinstance(node, (ast.FunctionDef, ast.ClassDef)):
            names.append(node.name)
        elif isinstance(node, ast.arg):
            names.append(node.arg)
        elif isinstance(node, ast.alias):
            names.append(node.asname or node.name)
        elif isinstance(node, (ast.MatchAs, ast.MatchStar, ast.ExceptHandler)) and node.name:
            names.append(node.name)
    return names


def defined_at_top(tree):
    names = [node.name for node in tree.body if isinstance(node, (ast.FunctionDef, ast.ClassDef))]
    for node in tree.body:
        if isinstance(node, ast.Assign):
            names += [target.id for target in node.targets]
    return names


class Files(unittest.TestCase):
    def test_the_folder_has_just_files_of_plain_names(self):
        for path in PACKAGE.rglob("*"):
            if "__pycache__" not in path.parts:
                self.assertRegex(path.name, r"^([a-z][a-z0-9_]*|__init__|__main__)\.py$")
        self.assertTrue((PACKAGE / "__init__.py").is_file())

    def test_characters_and_sizes(self):
        for path in files():
            text = path.read_text()
            self.assertRegex(text, r"\A[ -~\n]*\Z", path)
            self.assertLess(len(text.splitlines()), 400, path)
            for number, line in enumerate(text.splitlines(), start=1):
                self.assertLessEqual(len(line), 120, (path, number))
        for path, node in nodes(ast.FunctionDef):
            self.assertLessEqual(node.end_lineno - node.lineno + 1, 40, (path, node.name))

    def test_barred_words(self):
        for path in files():
            self.assertIsNone(BARRED_WORDS.search(path.read_text()), path)


class Names(unittest.TestCase):
    def test_plain_names(self):
        for path, tree in trees():
            for name in bound_names(tree):
                if not DOUBLE.fullmatch(name):
                    self.assertRegex(name, r"\A[A-Za-z][A-Za-z0-9_]*\Z", path)
                self.assertNotIn(name, BARRED_NAMES, path)

    def test_no_builtin_is_given_another_meaning(self):
        for path, tree in trees():
            methods = {method for node in ast.walk(tree) if isinstance(node, ast.ClassDef) for method in node.body}
            for node in ast.walk(tree):
                names = []
                if isinstance(node, (ast.FunctionDef, ast.ClassDef)) and node not in methods:
                    names = [node.name]
                elif isinstance(node, ast.arg):
                    names = [node.arg]
                elif isinstance(node, ast.Name) and not isinstance(node.ctx, ast.Load):
                    names = [node.id]
                for name in names:
                    self.assertFalse(hasattr(builtins, name), (path, name))

    def test_just_the_listed_builtins_are_used(self):
        for path, tree in trees():
            own = set(bound_names(tree))
            for node in ast.walk(tree):
                if isinstance(node, ast.Name) and node.id not in own:
                    self.assertIn(node.id, BUILTINS, (path, node.lineno))

    def test_each_name_is_bound_once_at_module_level(self):
        for path, tree in trees():
            names = defined_at_top(tree)
            for node in tree.body:
                if isinstance(node, ast.ImportFrom):
                    names += [alias.asname or alias.name for alias in node.names]
            self.assertEqual(len(names), len(set(names)), path)


    def test_no_variable_has_the_name_of_an_import_or_a_class(self):
        for path, tree in trees():
            outside = [node.name for node in tree.body if isinstance(node, ast.ClassDef)]
            for node in tree.body:
                if isinstance(node, ast.ImportFrom):
                    outside += [alias.asname or alias.name for alias in node.names]
            for function in ast.walk(tree):
                if isinstance(function, ast.FunctionDef):
                    inside = bound_names(function)
                    inside.remove(function.name)
                    self.assertEqual(set(inside) & set(outside), set(), (path, function.name))

    def test_no_name_is_a_method_and_an_attribute(self):
        methods, stored = set(), set()
        for _, tree in trees():
            for node in ast.walk(tree):
                if isinstance(node, ast.ClassDef):
                    methods |= {method.name for method in node.body if isinstance(method, ast.FunctionDef)}
                elif isinstance(node, ast.Attribute) and isinstance(node.ctx, ast.Store):
                    stored.add(node.attr)
        self.assertEqual(methods & stored, set())
        for path, node in nodes(ast.Attribute):
            self.assertIn(node.attr, methods | stored | METHODS, (path, node.lineno))


class Imports(unittest.TestCase):
    def test_from_the_very_file_at_the_top(self):
        tops = {path.stem: defined_at_top(tree) for path, tree in trees()}
        for path, tree in trees():
            for node in ast.walk(tree):
                self.assertNotIsInstance(node, ast.Import, path)
                if isinstance(node, ast.ImportFrom):
                    self.assertIn(node, tree.body, path)
                    self.assertEqual(node.level, 0, path)
                    package, _, stem = node.module.partition(".")
                    self.assertEqual(package, "boundgate", path)
                    for alias in node.names:
                        self.assertIn(alias.name, tops[stem], path)

    def test_no_rounds(self):
        leans = {}
        for path, tree in trees():
            leans[path.stem] = {
                node.module.partition(".")[2] for node in tree.body if isinstance(node, ast.ImportFrom)
            }
        while leans:
            free = [stem for stem in leans if not leans[stem]]
            self.assertTrue(free, leans)
            leans = {stem: leans[stem] - set(free) for stem in leans if stem not in free}


class Code(unittest.TestCase):
    def test_module_level(self):
        for path, tree in trees():
            for node in tree.body:
                plain = isinstance(node, (ast.ImportFrom, ast.FunctionDef, ast.ClassDef, ast.Assign))
                text = isinstance(node, ast.Expr) and isinstance(node.value, ast.Constant)
                self.assertTrue(plain or text, (path, node.lineno))

    def test_barred_statements_and_signs(self):
        barred = (
            ast.Global, ast.AsyncFunctionDef, ast.AsyncFor, ast.AsyncWith, ast.Await, ast.Div, ast.MatMult,
            ast.MatchClass, ast.MatchMapping, ast.TryStar,
        )
        self.assertEqual(nodes(barred), [])
        for path, node in nodes(ast.Constant):
            self.assertNotIsInstance(node.value, (float, complex), path)
            if isinstance(node.value, str):
                self.assertNotIn("%", node.value, path)
        for path, node in nodes(ast.BinOp):
            if isinstance(node.op, ast.Pow):
                self.assertIsInstance(node.right, ast.Constant, (path, node.lineno))

    def test_what_is_iterated_is_iterated_at_once(self):
        for path, tree in trees():
            fine = []
            for node in ast.walk(tree):
                if isinstance(node, (ast.For, ast.comprehension)):
                    fine.append(node.iter)
                elif isinstance(node, ast.Call) and isinstance(node.func, ast.Name) and node.func.id in TAKERS:
                    fine += node.args[:1]
            for node in ast.walk(tree):
                if isinstance(node, ast.Call):
                    plain = isinstance(node.func, ast.Name) and node.func.id in LAZY_CALLS
                    method = isinstance(node.func, ast.Attribute) and node.func.attr in LAZY_METHODS
                    if plain or method:
                        self.assertIn(node, fine, (path, node.lineno))
                elif isinstance(node, ast.GeneratorExp):
                    self.assertIn(node, fine, (path, node.lineno))

    def test_is_stands_with_none_true_and_false(self):
        for path, node in nodes(ast.Compare):
            for sign, right in zip(node.ops, node.comparators):
                if isinstance(sign, (ast.Is, ast.IsNot)):
                    self.assertIsInstance(right, ast.Constant, (path, node.lineno))
                    self.assertIn(right.value, (None, True, False), (path, node.lineno))

    def test_errors_are_made_on_the_spot(self):
        for path, node in nodes(ast.Raise):
            if node.exc is not None:
                self.assertIsInstance(node.exc, ast.Call, (path, node.lineno))
                self.assertIsInstance(node.exc.func, ast.Name, (path, node.lineno))

    def test_module_level_values_hold_no_lists_or_dicts_within(self):
        for path, tree in trees():
            for node in tree.body:
                if isinstance(node, ast.Assign):
                    for inner in ast.walk(node.value):
                        if inner is not node.value:
                            self.assertNotIsInstance(inner, (ast.List, ast.Dict, ast.Set, ast.Call), path)


if __name__ == "__main__":
    unittest.main()
