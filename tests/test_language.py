"""The part of Python to which the package's own files keep: the rules that are easily seen, not all of them."""

import ast
import builtins
import pathlib
import re
import unittest

ROOT = pathlib.Path(__file__).resolve().parent.parent / "wornpages"

ALLOWED_BUILTINS = set("""
    len range enumerate zip min max sum abs sorted reversed int str bool list tuple dict set frozenset isinstance
    ord repr any all divmod Exception ValueError TypeError KeyError IndexError LookupError ZeroDivisionError
    ArithmeticError OverflowError RuntimeError NotImplementedError AttributeError StopIteration object float bytes
""".split())

ALLOWED_METHODS = set("""
    append clear copy count endswith extend find get index insert isalnum isalpha isdigit islower isspace isupper
    items join keys ljust lower lstrip partition pop remove replace reverse rfind rjust rpartition rsplit rstrip
    setdefault split splitlines startswith strip update upper values zfill bit_length
""".split())

UNDERSCORED_METHODS = {"__init__", "__eq__", "__repr__", "__str__", "__len__"}

BARRED_NAMES = set("""
    register mro elements open input version_info with_traceback add_note attrgetter breakpoint builtins compile
    copyright credits delattr dir eval exec exit gc getattr globals hasattr help id importlib license locals
    methodcaller os quit setattr super sys type vars format format_map
""".split())

BARRED_WORDS = re.compile(
    r"\b(type|typing|typing_extensions|enum|Enum|IntEnum|StrEnum|Flag|IntFlag|Generic|Protocol|ABC|ABCMeta"
    r"|namedtuple|NamedTuple|TypedDict|TYPE_CHECKING|abstractmethod)\b|dataclass|overload|contextmanager"
)

BARRED_NODES = (
    ast.Import, ast.With, ast.Match, ast.Delete, ast.Global, ast.Nonlocal, ast.Assert, ast.Yield, ast.YieldFrom,
    ast.AsyncFunctionDef, ast.AsyncFor, ast.AsyncWith, ast.Await, ast.SetComp, ast.DictComp, ast.GeneratorExp,
    ast.NamedExpr, ast.Starred, ast.Div, ast.AnnAssign,
)

TOP_NODES = (ast.ImportFrom, ast.FunctionDef, ast.ClassDef, ast.Assign)


def is_docstring(node):
    return isinstance(node, ast.Expr) and isinstance(node.value, ast.Constant) and isinstance(node.value.value, str)


def is_written_join(func):
    return isinstance(func, ast.Attribute) and func.attr == "join" and isinstance(func.value, ast.Constant)


def names_in(tree):
    """Every name that a file binds, reads or asks an object for."""
    for node in ast.walk(tree):
        if isinstance(node, ast.Name):
            yield node.id
        elif isinstance(node, ast.Attribute):
            yield node.attr
        elif isinstance(node, ast.arg):
            yield node.arg
        elif isinstance(node, (ast.FunctionDef, ast.ClassDef)):
            yield node.name
        elif isinstance(node, ast.alias):
            yield node.asname or node.name


def bound_in(tree):
    """Every name that a file binds as a local, a parameter or at its top."""
    for node in ast.walk(tree):
        if isinstance(node, ast.Name) and isinstance(node.ctx, ast.Store):
            yield node.id
        elif isinstance(node, ast.arg):
            yield node.arg


def top_names(tree):
    """The names that a file binds at its top, in their order."""
    for node in tree.body:
        if isinstance(node, (ast.FunctionDef, ast.ClassDef)):
            yield node.name
        elif isinstance(node, ast.Assign):
            yield node.targets[0].id


def methods_in(tree):
    for node in ast.walk(tree):
        if isinstance(node, ast.ClassDef):
            for inner in node.body:
                if isinstance(inner, ast.FunctionDef):
                    yield inner.name


def values_in(tree):
    for node in ast.walk(tree):
        if isinstance(node, ast.Attribute) and isinstance(node.ctx, ast.Store):
            yield node.attr


class Language(unittest.TestCase):
    def setUp(self):
        self.paths = sorted(path for path in ROOT.rglob("*") if "__pycache__" not in path.parts)
        self.texts = {path: path.read_text(encoding="ascii") for path in self.paths}
        self.trees = {path: ast.parse(text) for path, text in self.texts.items()}
        self.own_methods = {name for tree in self.trees.values() for name in methods_in(tree)}

    def each_node(self, kind):
        for path, tree in self.trees.items():
            for node in ast.walk(tree):
                if isinstance(node, kind):
                    yield f"{path.name}:{getattr(node, 'lineno', 0)}", node

    def test_files(self):
        self.assertIn(ROOT / "__init__.py", self.paths)
        for path in self.paths:
            self.assertRegex(path.name, r"^[a-z][a-z0-9_]*\.py$|^__init__\.py$|^__main__\.py$")

    def test_signs_and_sizes(self):
        for path, text in self.texts.items():
            self.assertRegex(text, r"^[ -~\n]*\Z", path.name)
            self.assertLessEqual(len(text.splitlines()), 400, path.name)
            self.assertLessEqual(max(map(len, text.splitlines())), 120, path.name)
        for where, node in self.each_node(ast.FunctionDef):
            self.assertLessEqual(node.end_lineno - node.lineno + 1, 40, where)

    def test_barred_words(self):
        for path, text in self.texts.items():
            self.assertIsNone(BARRED_WORDS.search(text), path.name)

    def test_names(self):
        for path, tree in self.trees.items():
            for name in names_in(tree):
                if name not in UNDERSCORED_METHODS:
                    self.assertRegex(name, r"^[A-Za-z][A-Za-z0-9_]*$", path.name)
                self.assertNotIn(name, BARRED_NAMES, path.name)

    def test_no_name_of_pythons_own_is_bound(self):
        for path, tree in self.trees.items():
            self.assertEqual([name for name in bound_in(tree) if name in dir(builtins)], [], path.name)

    def test_no_local_is_called_like_a_class_or_an_import(self):
        for path, tree in self.trees.items():
            top = [node.name for node in tree.body if isinstance(node, ast.ClassDef)]
            for node in tree.body:
                if isinstance(node, ast.ImportFrom):
                    top += [alias.asname or alias.name for alias in node.names]
            self.assertEqual([name for name in bound_in(tree) if name in top], [], path.name)

    def test_keywords_at_pythons_own(self):
        allowed = {"sorted": {"key", "reverse"}, "min": {"key", "default"}, "max": {"key", "default"},
                   "sum": {"start"}, "enumerate": {"start"}, "zip": {"strict"}}
        for where, node in self.each_node(ast.Call):
            own = node.func.id if isinstance(node.func, ast.Name) else getattr(node.func, "attr", "")
            if own in ALLOWED_BUILTINS | ALLOWED_METHODS:
                self.assertLessEqual({keyword.arg for keyword in node.keywords}, allowed.get(own, set()), where)

    def test_what_is_walked_is_walked_at_once(self):
        takers = ("list", "tuple", "dict", "sorted", "sum", "any", "all", "enumerate", "zip")
        fit = []
        for where, node in self.each_node((ast.For, ast.comprehension, ast.Call)):
            if not isinstance(node, ast.Call):
                fit.append(node.iter)
            elif getattr(node.func, "id", "") in takers or is_written_join(node.func):
                fit += node.args[:1]
            elif getattr(node.func, "id", "") in ("min", "max") and len(node.args) == 1:
                fit += node.args
        for where, node in self.each_node(ast.Call):
            name = node.func.id if isinstance(node.func, ast.Name) else getattr(node.func, "attr", "")
            if name in ("zip", "enumerate", "reversed", "range", "items", "keys", "values"):
                self.assertIn(node, fit, where)

    def test_names_of_pythons_own(self):
        for where, node in self.each_node(ast.Name):
            if node.id in dir(builtins):
                self.assertIn(node.id, ALLOWED_BUILTINS, where)

    def test_barred_nodes(self):
        for where, node in self.each_node(BARRED_NODES):
            self.fail(f"{where}: {node.__class__.__name__}")

    def test_top_of_a_file(self):
        for path, tree in self.trees.items():
            self.assertTrue(is_docstring(tree.body[0]), path.name)
            for node in tree.body[1:]:
                self.assertIsInstance(node, TOP_NODES, path.name)
            names = list(top_names(tree))
            self.assertEqual(len(names), len(set(names)), path.name)

    def test_names_of_the_top_are_plain_values(self):
        for path, tree in self.trees.items():
            functions = {node.name for node in tree.body if isinstance(node, ast.FunctionDef)}
            for node in tree.body:
                if isinstance(node, ast.Assign):
                    self.check_plain(node.value, functions, path.name)

    def check_plain(self, node, functions, where):
        """A plain value: a list or dict of the top holds none itself."""
        if isinstance(node, (ast.List, ast.Tuple, ast.Dict)):
            within = node.elts if not isinstance(node, ast.Dict) else node.keys + node.values
            for inner in within:
                self.assertNotIsInstance(inner, (ast.List, ast.Dict), where)
                self.check_plain(inner, functions, where)
        elif isinstance(node, ast.Name):
            self.assertIn(node.id, functions, where)
        else:
            self.assertIsInstance(node, ast.Constant, where)

    def test_lists_and_dicts_of_the_top_are_only_read(self):
        for path, tree in self.trees.items():
            kept = [node.targets[0].id for node in tree.body
                    if isinstance(node, ast.Assign) and isinstance(node.value, (ast.List, ast.Dict))]
            fit = []
            for node in ast.walk(tree):
                if isinstance(node, ast.Subscript) and isinstance(node.ctx, ast.Load):
                    fit.append(node.value)
                elif isinstance(node, ast.Compare):
                    fit += node.comparators
                elif isinstance(node, (ast.For, ast.comprehension)):
                    fit.append(node.iter)
            for node in ast.walk(tree):
                if isinstance(node, ast.Name) and isinstance(node.ctx, ast.Load) and node.id in kept:
                    self.assertIn(node, fit, path.name)

    def test_imports_come_from_the_very_file(self):
        for where, node in self.each_node(ast.ImportFrom):
            self.assertEqual(node.level, 0, where)
            package, file = node.module.split(".")
            self.assertEqual(package, "wornpages", where)
            defined = list(top_names(self.trees[ROOT / f"{file}.py"]))
            for alias in node.names:
                self.assertIn(alias.name, defined, where)

    def test_imports_go_round_in_no_ring(self):
        drawn = {path.stem: set() for path in self.paths}
        for path, tree in self.trees.items():
            for node in ast.walk(tree):
                if isinstance(node, ast.ImportFrom):
                    drawn[path.stem].add(node.module.split(".")[1])
        while drawn:
            ends = [file for file in drawn if not drawn[file] & set(drawn)]
            self.assertTrue(ends, sorted(drawn))
            for file in ends:
                drawn.pop(file)

    def test_functions(self):
        for where, node in self.each_node(ast.FunctionDef):
            self.assertEqual(node.decorator_list, [], where)
            self.assertIsNone(node.args.vararg, where)
            self.assertIsNone(node.args.kwarg, where)
            self.assertEqual(node.args.kwonlyargs + node.args.posonlyargs, [], where)
            for default in node.args.defaults:
                self.assertIsInstance(default, ast.Constant, where)

    def test_classes(self):
        for where, node in self.each_node(ast.ClassDef):
            self.assertEqual(node.decorator_list + node.keywords, [], where)
            self.assertLessEqual(len(node.bases), 1, where)
            for inner in node.body:
                self.assertTrue(isinstance(inner, ast.FunctionDef) or is_docstring(inner), where)

    def test_statements(self):
        for where, node in self.each_node((ast.For, ast.While)):
            self.assertEqual(node.orelse, [], where)
        for where, node in self.each_node(ast.Assign):
            self.assertEqual(len(node.targets), 1, where)
        for where, node in self.each_node(ast.Try):
            self.assertEqual(node.finalbody, [], where)

    def test_values(self):
        for where, node in self.each_node(ast.Constant):
            self.assertNotIsInstance(node.value, (float, bytes, complex), where)
            if isinstance(node.value, str):
                self.assertNotIn("%", node.value, where)
        for where, node in self.each_node(ast.FormattedValue):
            self.assertIsInstance(node.value, ast.Name, where)
        for where, node in self.each_node(ast.BinOp):
            if isinstance(node.op, ast.Pow):
                self.assertIsInstance(node.right, ast.Constant, where)

    def test_is_stands_beside_none_and_truths(self):
        for where, node in self.each_node(ast.Compare):
            sides = [node.left] + node.comparators
            if any(isinstance(op, (ast.Is, ast.IsNot)) for op in node.ops):
                beside = [side for side in sides if isinstance(side, ast.Constant)]
                self.assertTrue(any(side.value is None or isinstance(side.value, bool) for side in beside), where)

    def test_sets_are_neither_kept_nor_walked(self):
        fit = []
        for where, node in self.each_node((ast.Call, ast.Compare)):
            if isinstance(node, ast.Call) and getattr(node.func, "id", "") in ("sorted", "len") and not node.keywords:
                fit += node.args
            elif isinstance(node, ast.Compare) and isinstance(node.ops[0], (ast.In, ast.NotIn, ast.Eq, ast.NotEq)):
                fit += [node.left] + node.comparators
        for where, node in self.each_node((ast.Call, ast.Set)):
            if isinstance(node, ast.Set) or getattr(node.func, "id", "") in ("set", "frozenset"):
                self.assertIn(node, fit, where)

    def test_classes_are_only_called_drawn_from_or_taken(self):
        own = {node.name for where, node in self.each_node(ast.ClassDef)}
        fit = []
        for where, node in self.each_node((ast.Call, ast.ClassDef, ast.ExceptHandler, ast.Attribute)):
            if isinstance(node, ast.Call):
                fit += [node.func] + (node.args[1:] if getattr(node.func, "id", "") == "isinstance" else [])
            elif isinstance(node, ast.ClassDef):
                fit += node.bases
            elif isinstance(node, ast.ExceptHandler):
                fit += node.type.elts if isinstance(node.type, ast.Tuple) else [node.type]
            elif node.attr == "__init__":
                fit.append(node.value)
        for where, node in self.each_node(ast.Name):
            if node.id in own:
                self.assertIn(node, fit, where)

    def test_errors_are_made_on_the_spot_and_taken_by_name(self):
        own = {node.name for where, node in self.each_node(ast.ClassDef)}
        for where, node in self.each_node(ast.Raise):
            self.assertIsInstance(node.exc, ast.Call, where)
        for where, node in self.each_node(ast.ExceptHandler):
            self.assertIsInstance(node.type, ast.Name, where)
            self.assertIn(node.type.id, own | {"KeyError", "ZeroDivisionError", "StopIteration"}, where)

    def test_methods_that_are_called(self):
        for where, node in self.each_node(ast.Call):
            if isinstance(node.func, ast.Attribute):
                known = ALLOWED_METHODS | self.own_methods | UNDERSCORED_METHODS
                self.assertIn(node.func.attr, known, where)

    def test_no_name_is_a_method_and_a_value(self):
        values = {name for tree in self.trees.values() for name in values_in(tree)}
        self.assertEqual(sorted(values & self.own_methods), [])

    def test_methods_and_values_are_free_of_pythons_own(self):
        kinds = (str, int, list, dict, set, bytes, tuple)
        taken = {name for kind in kinds for name in dir(kind)} - UNDERSCORED_METHODS
        values = {name for tree in self.trees.values() for name in values_in(tree)}
        free_values = set("count index title find get join lower upper split strip copy add".split())
        self.assertEqual(sorted((values & taken) - free_values), [])
        self.assertEqual(sorted((self.own_methods & taken) - ALLOWED_METHODS - {"add", "discard"}), [])


if __name__ == "__main__":
    unittest.main()
