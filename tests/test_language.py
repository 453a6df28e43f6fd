"""Whether the package's files keep to the small part of Python that they may use."""

import ast
import builtins
import pathlib
import re
import unittest

FOLDER = pathlib.Path(__file__).resolve().parent.parent / "netways"

STATEMENTS = (
    ast.Assign, ast.AugAssign, ast.If, ast.While, ast.For, ast.Return, ast.Break, ast.Continue, ast.Pass, ast.Raise,
    ast.Try, ast.Expr, ast.FunctionDef, ast.ClassDef, ast.ImportFrom,
)
EXPRESSIONS = (
    ast.Constant, ast.Name, ast.Attribute, ast.Subscript, ast.Slice, ast.List, ast.Tuple, ast.Dict, ast.Call, ast.BinOp,
    ast.UnaryOp, ast.BoolOp, ast.Compare, ast.IfExp, ast.ListComp, ast.JoinedStr, ast.FormattedValue, ast.Lambda,
)
OWN_NAMES = set(
    "len range enumerate zip min max sum abs sorted reversed int str bool list tuple dict set frozenset isinstance ord "
    "repr any all divmod Exception ValueError TypeError KeyError IndexError LookupError ZeroDivisionError "
    "ArithmeticError OverflowError RuntimeError NotImplementedError AttributeError StopIteration".split()
)
METHODS = set(
    "append clear copy count endswith extend find get index insert isalnum isalpha isdigit islower isspace isupper "
    "items join keys ljust lower lstrip partition pop remove replace reverse rfind rjust rpartition rsplit rstrip "
    "setdefault split splitlines startswith strip update upper values zfill bit_length".split()
)
PYTHONS = set(name for kind in (str, int, list, dict, set, bytes, tuple) for name in vars(kind))
NOT_USED = set("register mro elements open input version_info with_traceback add_note args encode format sort".split())
NO_WORDS = re.compile(
    r"\b(type|typing|typing_extensions|enum|Enum|IntEnum|StrEnum|Flag|IntFlag|Generic|Protocol|ABC|ABCMeta|namedtuple|"
    r"NamedTuple|TypedDict|TYPE_CHECKING|abstractmethod)\b|dataclass|overload|contextmanager"
)


WALKED = ("zip", "enumerate", "reversed", "range", "items", "keys", "values")
WALKERS = ("list", "tuple", "dict", "sorted", "sum", "any", "all", "enumerate", "zip", "min", "max")
KEYWORDS = {"sorted": ("key", "reverse"), "min": ("key", "default"), "max": ("key", "default"), "sum": ("start",),
            "enumerate": ("start",), "zip": ("strict",)}


def files():
    return sorted(FOLDER.glob("*.py"))


def nodes(path):
    return list(ast.walk(ast.parse(path.read_text())))


def assigned(node):
    """The names that a node binds as locals or parameters."""
    if isinstance(node, ast.arg):
        return [node.arg]
    if isinstance(node, ast.Name) and isinstance(node.ctx, ast.Store):
        return [node.id]
    return []


def name_of(call):
    """What is called, by its last name."""
    return call.func.attr if isinstance(call.func, ast.Attribute) else getattr(call.func, "id", None)


def is_plain(node):
    """A value that may stand at a file's top: no list or dict within another."""
    if isinstance(node, ast.Tuple):
        return all(is_plain(part) for part in node.elts)
    if isinstance(node, ast.UnaryOp):
        return isinstance(node.operand, ast.Constant)
    return isinstance(node, (ast.Constant, ast.Name))


class Language(unittest.TestCase):

    def each(self, kinds):
        return [(path, node) for path in files() for node in nodes(path) if isinstance(node, kinds)]

    def test_the_folder_holds_plain_files_alone(self):
        for path in FOLDER.iterdir():
            if path.name != "__pycache__":
                self.assertRegex(path.name, r"^([a-z][a-z0-9_]*|__init__)\.py$")

    def test_sizes_and_signs(self):
        for path in files():
            text = path.read_text()
            self.assertLessEqual(len(text.splitlines()), 400, path)
            self.assertRegex(text, r"\A[\n -~]*\Z", path)
            self.assertIsNone(NO_WORDS.search(text), path)
            for line in text.splitlines():
                self.assertLessEqual(len(line), 120, (path, line))
        for path, node in self.each(ast.FunctionDef):
            self.assertLessEqual(node.end_lineno - node.lineno + 1, 40, (path, node.name))

    def test_statements_and_expressions(self):
        for path, node in self.each((ast.stmt, ast.expr)):
            self.assertIsInstance(node, STATEMENTS + EXPRESSIONS, (path, node.lineno))
        for path, node in self.each(ast.Assign):
            self.assertEqual(len(node.targets), 1, (path, node.lineno))
            self.assertNotIsInstance(node.targets[0], (ast.Tuple, ast.List), (path, node.lineno))
        for path, node in self.each((ast.For, ast.While)):
            self.assertEqual(node.orelse, [], (path, node.lineno))
        for path, node in self.each(ast.ListComp):
            self.assertEqual(len(node.generators), 1, (path, node.lineno))
            self.assertLessEqual(len(node.generators[0].ifs), 1, (path, node.lineno))
        for path, node in self.each((ast.Div, ast.Starred)):
            self.fail((path, node))
        for path, node in self.each(ast.Constant):
            self.assertIn(node.value.__class__, (int, str, bool, None.__class__), (path, node.lineno))

    def test_functions_and_classes_are_plain(self):
        for path, node in self.each((ast.FunctionDef, ast.ClassDef)):
            self.assertEqual(node.decorator_list, [], (path, node.name))
        for path, node in self.each(ast.arguments):
            self.assertEqual((node.vararg, node.kwarg, node.kwonlyargs, node.posonlyargs), (None, None, [], []), path)
        for path, node in self.each(ast.ClassDef):
            self.assertLessEqual(len(node.bases), 1, (path, node.name))
            for part in node.body:
                self.assertIsInstance(part, (ast.FunctionDef, ast.Pass), (path, node.name))

    def test_imports_are_the_packages_own(self):
        for path, node in self.each(ast.ImportFrom):
            self.assertEqual(node.level, 0, path)
            self.assertTrue(node.module.startswith("netways."), (path, node.module))
            home = nodes(FOLDER / (node.module.split(".")[1] + ".py"))
            defined = [part.name for part in home if isinstance(part, (ast.FunctionDef, ast.ClassDef))]
            defined += [name for part in home for name in assigned(part)]
            for name in node.names:
                self.assertIn(name.name, defined, path)
                self.assertIsNone(name.asname, path)

    def test_no_two_files_draw_from_one_another(self):
        drawn = {path.stem: set() for path in files()}
        for path, node in self.each(ast.ImportFrom):
            drawn[path.stem].add(node.module.split(".")[1])
        while drawn:
            ends = [stem for stem in drawn if not drawn[stem]]
            self.assertTrue(ends, drawn)
            drawn = {stem: drawn[stem] - set(ends) for stem in drawn if stem not in ends}

    def test_the_top_of_a_file(self):
        for path in files():
            top = ast.parse(path.read_text()).body
            bound = []
            for place, node in enumerate(top):
                if isinstance(node, ast.Expr):
                    self.assertTrue(place == 0 and isinstance(node.value, ast.Constant), (path, node.lineno))
                elif isinstance(node, ast.Assign):
                    self.assertTrue(is_plain(node.value), (path, node.lineno))
                    bound.append(node.targets[0].id)
                elif isinstance(node, ast.ImportFrom):
                    bound += [name.name for name in node.names]
                else:
                    self.assertIsInstance(node, (ast.FunctionDef, ast.ClassDef), (path, node.lineno))
                    bound.append(node.name)
            self.assertEqual(sorted(bound), sorted(set(bound)), path)

    def test_is_stands_beside_none_true_and_false_alone(self):
        for path, node in self.each(ast.Compare):
            if any(isinstance(sign, (ast.Is, ast.IsNot)) for sign in node.ops):
                self.assertIsInstance(node.comparators[0], ast.Constant, (path, node.lineno))
                self.assertIn(node.comparators[0].value, (None, True, False), (path, node.lineno))

    def test_no_annotations(self):
        for path, node in self.each(ast.FunctionDef):
            self.assertIsNone(node.returns, (path, node.name))
        for path, node in self.each(ast.arg):
            self.assertIsNone(node.annotation, (path, node.arg))

    def test_keywords_of_pythons_own(self):
        for path, node in self.each(ast.Call):
            for keyword in node.keywords:
                self.assertIn(keyword.arg, KEYWORDS.get(name_of(node), ()), (path, node.lineno))

    def test_what_is_walked_is_walked_at_once_and_sets_are_not_kept(self):
        for path in files():
            found, walked, in_sorted = nodes(path), [], []
            for node in found:
                if isinstance(node, (ast.For, ast.comprehension)):
                    walked.append(node.iter)
                elif isinstance(node, ast.Call) and name_of(node) in WALKERS:
                    walked += node.args[:1]
                if isinstance(node, ast.Call) and name_of(node) in ("sorted", "len"):
                    in_sorted += node.args[:1]
            for node in found:
                if isinstance(node, ast.Call) and name_of(node) in WALKED:
                    self.assertIn(node, walked, (path, node.lineno))
                if isinstance(node, ast.Call) and name_of(node) in ("set", "frozenset"):
                    self.assertIn(node, in_sorted, (path, node.lineno))

    def test_names(self):
        imported = {path: [] for path in files()}
        for path, node in self.each(ast.ImportFrom):
            imported[path] += [name.name for name in node.names]
        for path, node in self.each((ast.Name, ast.arg)):
            for name in assigned(node):
                self.assertRegex(name, r"^[A-Za-z][A-Za-z0-9_]*$", path)
                self.assertNotIn(name, dir(builtins), path)
                self.assertNotIn(name, imported[path], path)
            if isinstance(node, ast.Name) and node.id in dir(builtins):
                self.assertIn(node.id, OWN_NAMES, (path, node.lineno))

    def test_methods_and_values_of_objects(self):
        methods = set()
        for path, node in self.each(ast.ClassDef):
            methods |= {part.name for part in node.body if isinstance(part, ast.FunctionDef)}
        values = {node.attr for path, node in self.each(ast.Attribute) if isinstance(node.ctx, ast.Store)}
        self.assertEqual(methods & values, set())
        self.assertEqual((values | methods) & (PYTHONS - {"__init__"}), set())
        for path, node in self.each(ast.Attribute):
            self.assertNotIn(node.attr, NOT_USED, (path, node.lineno))
            self.assertIn(node.attr, methods | values | METHODS, (path, node.lineno))


if __name__ == "__main__":
    unittest.main()
