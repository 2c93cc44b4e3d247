"""The package keeps to the part of Python that the program is written in.

Seen here are the rules that a walk over the source can see; some are held
narrower than they are told (no sets but straight within `sorted` or `len`, no
annotations, no `__main__.py`).
"""

import ast
import builtins
import pathlib
import re
import unittest

PACKAGE = pathlib.Path(__file__).resolve().parent.parent / "askbook"

OWN_NAMES = set("""
    len range enumerate zip min max sum abs sorted reversed int str bool list tuple dict set isinstance ord repr any
    all divmod Exception ValueError TypeError KeyError IndexError LookupError ZeroDivisionError ArithmeticError
    OverflowError RuntimeError NotImplementedError StopIteration
""".split())
METHODS = set("""
    append clear copy count endswith extend find get index insert isalnum isalpha isdigit islower isspace isupper
    items join keys ljust lower lstrip partition pop remove replace reverse rfind rjust rpartition rsplit rstrip
    setdefault split splitlines startswith strip update upper values zfill bit_length
""".split())
UNUSED_NAMES = set("""
    register mro elements open input version_info with_traceback add_note attrgetter breakpoint builtins compile
    copyright credits delattr dir eval exec exit gc getattr globals hasattr help id importlib license locals
    methodcaller os quit setattr super type vars sys chr frozenset format format_map
""".split())
UNUSED_WORDS = re.compile(
    r"\b(type|typing|typing_extensions|enum|Enum|IntEnum|StrEnum|Flag|IntFlag|Generic|Protocol|ABC|ABCMeta|namedtuple"
    r"|NamedTuple|TypedDict|TYPE_CHECKING|abstractmethod)\b|dataclass|overload|contextmanager")
METHODS_WITH_UNDERSCORES = {"__init__", "__eq__", "__repr__", "__str__", "__len__"}
PLAIN_WORD = re.compile(r"\A[A-Za-z][A-Za-z0-9_]*\Z")

WALKED_NAMES = {"zip", "enumerate", "reversed", "range"}
WALKED_METHODS = {"items", "keys", "values"}
WALKERS = {"list", "tuple", "dict", "sorted", "sum", "any", "all", "enumerate", "zip"}
KEYWORDS = {
    "sorted": {"key", "reverse"}, "min": {"key", "default"}, "max": {"key", "default"}, "sum": {"start"},
    "enumerate": {"start"}, "zip": {"strict"},
}

STATEMENTS = (
    ast.FunctionDef, ast.ClassDef, ast.ImportFrom, ast.Assign, ast.AugAssign, ast.If, ast.While, ast.For, ast.Return,
    ast.Break, ast.Continue, ast.Pass, ast.Raise, ast.Try, ast.Expr,
)
EXPRESSIONS = (
    ast.Constant, ast.List, ast.Tuple, ast.Dict, ast.BinOp, ast.UnaryOp, ast.BoolOp, ast.Compare, ast.IfExp, ast.Call,
    ast.Attribute, ast.Subscript, ast.Slice, ast.ListComp, ast.JoinedStr, ast.FormattedValue, ast.Name, ast.Lambda,
)


def sources():
    return sorted(PACKAGE.glob("*.py"))


def trees():
    return [(path, ast.parse(path.read_text(encoding="utf-8"))) for path in sources()]


def walked_places(tree):
    """The nodes that are walked on the spot: behind an `in`, or first in a call that walks."""
    found = []
    for node in ast.walk(tree):
        if isinstance(node, (ast.For, ast.comprehension)):
            found.append(node.iter)
        if isinstance(node, ast.Call) and isinstance(node.func, ast.Name):
            if node.func.id in WALKERS or (node.func.id in ("min", "max") and len(node.args) == 1):
                found.extend(node.args if node.func.id == "zip" else node.args[:1])
    return found


def own_methods():
    found = set()
    for path, tree in trees():
        for node in ast.walk(tree):
            if isinstance(node, ast.ClassDef):
                found |= {part.name for part in node.body if isinstance(part, ast.FunctionDef)}
    return found


def is_docstring(node):
    return isinstance(node, ast.Expr) and isinstance(node.value, ast.Constant) and isinstance(node.value.value, str)


def top_names(tree):
    names = []
    for node in tree.body:
        if isinstance(node, (ast.FunctionDef, ast.ClassDef)):
            names.append(node.name)
        elif isinstance(node, ast.Assign):
            names.extend([target.id for target in node.targets])
        elif isinstance(node, ast.ImportFrom):
            names.extend([alias.name for alias in node.names])
    return names


class LanguageTest(unittest.TestCase):
    def hold(self, check, *kinds):
        for path, tree in trees():
            for node in ast.walk(tree):
                if isinstance(node, kinds):
                    with self.subTest(file=path.name, line=node.lineno):
                        check(node)

    def test_the_package_holds_plain_files_alone(self):
        self.assertTrue((PACKAGE / "__init__.py").is_file())
        for path in PACKAGE.iterdir():
            if path.name != "__pycache__":
                self.assertRegex(path.name, r"\A(__init__|[a-z][a-z0-9_]*)\.py\Z")
                self.assertNotIn(path.stem, dir(builtins))

    def test_signs_words_and_sizes(self):
        for path in sources():
            text = path.read_bytes().decode("utf-8")
            with self.subTest(file=path.name):
                self.assertEqual([sign for sign in text if sign != "\n" and not " " <= sign <= "~"], [])
                self.assertIsNone(UNUSED_WORDS.search(text))
                self.assertLessEqual(len(text.splitlines()), 400)
                self.assertLessEqual(max([len(line) for line in text.splitlines()]), 120)

    def test_the_top_of_a_file(self):
        for path, tree in trees():
            with self.subTest(file=path.name):
                for node in tree.body:
                    kinds = (ast.ImportFrom, ast.FunctionDef, ast.ClassDef, ast.Assign)
                    self.assertTrue(isinstance(node, kinds) or (node is tree.body[0] and is_docstring(node)))
                names = top_names(tree)
                self.assertEqual(sorted(set(names)), sorted(names))

    def test_imports_are_from_the_file_that_defines_the_name(self):
        defined = {"askbook." + path.stem: tree for path, tree in trees()}

        def check(node):
            self.assertIsInstance(node, ast.ImportFrom)
            self.assertEqual(node.level, 0)
            self.assertEqual(node.col_offset, 0)
            bodies = [part for part in defined[node.module].body if not isinstance(part, ast.ImportFrom)]
            for alias in node.names:
                self.assertIn(alias.name, top_names(ast.Module(bodies, [])))

        self.hold(check, ast.Import, ast.ImportFrom)

    def test_no_two_files_draw_from_one_another(self):
        drawn = {}
        for path, tree in trees():
            drawn["askbook." + path.stem] = [node.module for node in tree.body if isinstance(node, ast.ImportFrom)]
        while drawn:
            free = [name for name in drawn if not any(other in drawn for other in drawn[name])]
            self.assertNotEqual(free, [], sorted(drawn))
            for name in free:
                drawn.pop(name)

    def test_statements(self):
        def check(node):
            self.assertIsInstance(node, STATEMENTS)
            if isinstance(node, (ast.For, ast.While)):
                self.assertEqual(node.orelse, [])
            if isinstance(node, ast.Assign):
                self.assertEqual(len(node.targets), 1)
                self.assertNotIsInstance(node.targets[0], (ast.Tuple, ast.List))
            if isinstance(node, ast.Expr):
                self.assertTrue(isinstance(node.value, ast.Call) or (node.lineno == 1 and is_docstring(node)))
            if isinstance(node, ast.Try):
                self.assertEqual(node.finalbody, [])
                self.assertTrue(all([handler.type is not None for handler in node.handlers]))

        self.hold(check, ast.stmt)

    def test_expressions(self):
        def check(node):
            self.assertIsInstance(node, EXPRESSIONS)
            if isinstance(node, ast.Constant):
                self.assertIsInstance(node.value, (int, str, bool, type(None)))
                self.assertNotIn("%", str(node.value))
            if isinstance(node, ast.BinOp):
                self.assertNotIsInstance(node.op, (ast.Div, ast.MatMult))
                if isinstance(node.op, ast.Pow):
                    self.assertIsInstance(node.right, ast.Constant)
            if isinstance(node, ast.ListComp):
                self.assertEqual(len(node.generators), 1)
                self.assertLessEqual(len(node.generators[0].ifs), 1)
            if isinstance(node, ast.Compare) and any([isinstance(op, (ast.Is, ast.IsNot)) for op in node.ops]):
                self.assertIsInstance(node.comparators[0], ast.Constant)
            if isinstance(node, ast.FormattedValue):
                self.assertIsInstance(node.value, ast.Name)

        self.hold(check, ast.expr)

    def test_functions(self):
        def check(node):
            self.assertEqual(node.decorator_list, [])
            self.assertIsNone(node.returns)
            self.assertLessEqual(node.end_lineno - node.lineno + 1, 40)
            arguments = node.args
            self.assertEqual((arguments.vararg, arguments.kwarg), (None, None))
            self.assertEqual((arguments.kwonlyargs, arguments.posonlyargs), ([], []))
            self.assertTrue(all([argument.annotation is None for argument in arguments.args]))

        self.hold(check, ast.FunctionDef)

    def test_classes(self):
        def check(node):
            self.assertEqual((node.decorator_list, node.keywords, node.col_offset), ([], [], 0))
            self.assertLessEqual(len(node.bases), 1)
            self.assertTrue(all([isinstance(part, (ast.FunctionDef, ast.Pass)) for part in node.body]))

        self.hold(check, ast.ClassDef)

    def test_names_that_are_read(self):
        def check(node):
            self.assertNotIn(node.id, UNUSED_NAMES)
            if node.id in dir(builtins):
                self.assertIn(node.id, OWN_NAMES)
                self.assertIsInstance(node.ctx, ast.Load)

        self.hold(check, ast.Name)

    def test_names_that_are_bound(self):
        def check(node):
            if isinstance(node, ast.Name) and isinstance(node.ctx, ast.Load):
                return
            name = node.id if isinstance(node, ast.Name) else node.arg if isinstance(node, ast.arg) else node.name
            if name not in METHODS_WITH_UNDERSCORES:
                self.assertRegex(name, PLAIN_WORD)
                self.assertNotIn(name, dir(builtins))

        self.hold(check, ast.FunctionDef, ast.ClassDef, ast.arg, ast.Name)

    def test_no_local_is_called_like_a_class_or_an_import(self):
        for path, tree in trees():
            taken = set()
            for part in tree.body:
                if isinstance(part, ast.ImportFrom):
                    taken |= {alias.name for alias in part.names}
                if isinstance(part, ast.ClassDef):
                    taken.add(part.name)
            bound = {node.arg for node in ast.walk(tree) if isinstance(node, ast.arg)}
            bound |= {node.id for node in ast.walk(tree) if isinstance(node, ast.Name) and isinstance(node.ctx, ast.Store)}
            self.assertEqual(sorted(taken & bound), [], path.name)

    def test_errors_that_are_taken(self):
        own = {part.name for path, tree in trees() for part in tree.body if isinstance(part, ast.ClassDef)}

        def check(node):
            self.assertIsInstance(node.type, ast.Name)
            self.assertIn(node.type.id, own | {"KeyError", "ZeroDivisionError", "StopIteration"})

        self.hold(check, ast.ExceptHandler)

    def test_keywords(self):
        def check(node):
            name = node.func.id if isinstance(node.func, ast.Name) else ""
            self.assertLessEqual({keyword.arg for keyword in node.keywords}, KEYWORDS.get(name, set()))

        self.hold(check, ast.Call)

    def test_what_is_walked_is_walked_on_the_spot(self):
        for path, tree in trees():
            walked = [id(node) for node in walked_places(tree)]
            for node in ast.walk(tree):
                if not isinstance(node, ast.Call):
                    continue
                name = node.func.id if isinstance(node.func, ast.Name) else None
                method = node.func.attr if isinstance(node.func, ast.Attribute) else None
                if name in WALKED_NAMES or method in WALKED_METHODS:
                    self.assertIn(id(node), walked, (path.name, node.lineno))

    def test_sets_are_only_sorted_or_counted(self):
        for path, tree in trees():
            right = []
            for node in ast.walk(tree):
                if isinstance(node, ast.Call) and isinstance(node.func, ast.Name) and node.func.id in ("sorted", "len"):
                    if len(node.args) == 1 and not node.keywords and isinstance(node.args[0], ast.Call):
                        right.append(id(node.args[0].func))
            for node in ast.walk(tree):
                if isinstance(node, ast.Name) and node.id == "set":
                    self.assertIn(id(node), right, (path.name, node.lineno))

    def test_no_name_of_pythons_own_is_handed_on(self):
        for path, tree in trees():
            called = [id(node.func) for node in ast.walk(tree) if isinstance(node, ast.Call)]
            for node in ast.walk(tree):
                if isinstance(node, ast.Name) and node.id in ("len", "sorted", "min", "max", "sum", "all", "any"):
                    self.assertIn(id(node), called, (path.name, node.lineno))
                if isinstance(node, ast.Attribute) and node.attr in METHODS:
                    self.assertIn(id(node), called, (path.name, node.lineno))

    def test_methods(self):
        own = own_methods()

        def check(node):
            if isinstance(node.func, ast.Attribute):
                self.assertIn(node.func.attr, METHODS | own)

        self.hold(check, ast.Call)

        def check(node):
            self.assertNotIn(node.attr, UNUSED_NAMES)

        self.hold(check, ast.Attribute)


if __name__ == "__main__":
    unittest.main()
