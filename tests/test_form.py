"""The form of the package's files, as far as it can be seen by looking at them one by one."""

import ast
import builtins
import pathlib
import re
import unittest

PACKAGE = pathlib.Path(__file__).resolve().parent.parent / "cosetyard"

OWN_NAMES = set("""len range enumerate zip min max sum abs sorted reversed int str bool list tuple dict set frozenset
isinstance ord repr any all divmod Exception ValueError TypeError KeyError IndexError LookupError ZeroDivisionError
ArithmeticError OverflowError RuntimeError NotImplementedError AttributeError StopIteration""".split())

METHODS = set("""append clear copy count endswith extend find get index insert isalnum isalpha isdigit islower isspace
isupper items join keys ljust lower lstrip partition pop remove replace reverse rfind rjust rpartition rsplit rstrip
setdefault split splitlines startswith strip update upper values zfill bit_length""".split())

DUNDERS = {"__init__", "__eq__", "__repr__", "__str__", "__len__"}

STATEMENTS = (ast.FunctionDef, ast.ClassDef, ast.ImportFrom, ast.Assign, ast.AugAssign, ast.If, ast.While, ast.For,
              ast.Return, ast.Break, ast.Continue, ast.Pass, ast.Raise, ast.Try, ast.Expr)

NOT_USED = (ast.SetComp, ast.DictComp, ast.GeneratorExp, ast.NamedExpr, ast.Starred, ast.Div, ast.MatMult, ast.Await,
            ast.Yield, ast.YieldFrom)

WORDS_NOWHERE = re.compile(
    r"\b(type|typing|typing_extensions|enum|Enum|IntEnum|StrEnum|Flag|IntFlag|Generic|Protocol|ABC|ABCMeta|namedtuple"
    r"|NamedTuple|TypedDict|TYPE_CHECKING|abstractmethod)\b|dataclass|overload|contextmanager")


def files():
    return sorted(path for path in PACKAGE.iterdir() if path.name != "__pycache__")


def trees():
    return [(path.name, ast.parse(path.read_text(encoding="utf-8"))) for path in files()]


def nodes():
    return [(f"{name}:{getattr(node, 'lineno', 0)}", node) for name, tree in trees() for node in ast.walk(tree)]


def nodes_of(kind):
    return [(place, node) for place, node in nodes() if isinstance(node, kind)]


def drawn_from(tree):
    return [node.module for node in ast.walk(tree) if isinstance(node, ast.ImportFrom)]


class Files(unittest.TestCase):
    def test_names(self):
        self.assertIn("__init__.py", [path.name for path in files()])
        for path in files():
            self.assertRegex(path.name, r"^([a-z][a-z0-9_]*|__init__)\.py$")

    def test_signs_and_sizes(self):
        for path in files():
            text = path.read_text(encoding="utf-8")
            self.assertRegex(text, r"\A[ -~\n]*\Z", path.name)
            self.assertIsNone(WORDS_NOWHERE.search(text), path.name)
            self.assertLessEqual(len(text.splitlines()), 400, path.name)
            for line in text.splitlines():
                self.assertLessEqual(len(line), 120, path.name)
        for place, node in nodes_of(ast.FunctionDef):
            self.assertLessEqual(node.end_lineno - node.lineno + 1, 40, place)

    def test_imports(self):
        names = {"cosetyard." + path.stem for path in files()}
        known = {"cosetyard." + name[:-3]: drawn_from(tree) for name, tree in trees()}
        for module in known:
            reached = list(known[module])
            for other in reached:
                self.assertIn(other, names, module)
                reached.extend(further for further in known[other] if further not in reached)
            self.assertNotIn(module, reached)


class Code(unittest.TestCase):
    def test_statements_and_expressions(self):
        for place, node in nodes():
            if isinstance(node, ast.stmt):
                self.assertIsInstance(node, STATEMENTS, place)
            self.assertNotIsInstance(node, NOT_USED, place)
            if isinstance(node, (ast.For, ast.While)):
                self.assertEqual(node.orelse, [], place)
            if isinstance(node, ast.Try):
                self.assertEqual(node.finalbody, [], place)
            if isinstance(node, ast.Assign):
                self.assertEqual(len(node.targets), 1, place)
                self.assertIsInstance(node.targets[0], (ast.Name, ast.Attribute, ast.Subscript), place)
            if isinstance(node, ast.ListComp):
                self.assertEqual(len(node.generators), 1, place)
                self.assertLessEqual(len(node.generators[0].ifs), 1, place)

    def test_constants(self):
        for place, node in nodes_of(ast.Constant):
            self.assertNotIsInstance(node.value, (float, complex, bytes), place)
            if isinstance(node.value, str):
                self.assertNotIn("%", node.value, place)

    def test_functions(self):
        for place, node in nodes_of((ast.FunctionDef, ast.ClassDef)):
            self.assertEqual(node.decorator_list, [], place)
            if isinstance(node, ast.FunctionDef):
                rest = [node.args.vararg, node.args.kwarg] + node.args.kwonlyargs + node.args.posonlyargs
                self.assertEqual(rest, [None, None], place)

    def test_names(self):
        for place, node in nodes_of(ast.Name):
            self.assertRegex(node.id, r"^[A-Za-z][A-Za-z0-9_]*$", place)
            if hasattr(builtins, node.id):
                self.assertIn(node.id, OWN_NAMES, place)
                self.assertIsInstance(node.ctx, ast.Load, place)
        for place, node in nodes_of(ast.arg):
            self.assertFalse(hasattr(builtins, node.arg) or node.arg.startswith("_"), place)
        for place, node in nodes_of(ast.FunctionDef):
            self.assertTrue(node.name in DUNDERS or re.match("[A-Za-z]", node.name), place)

    def test_locals_are_called_unlike_imports_and_classes(self):
        for name, tree in trees():
            taken = {alias.name for node in ast.walk(tree) if isinstance(node, ast.ImportFrom) for alias in node.names}
            taken.update(node.name for node in ast.walk(tree) if isinstance(node, ast.ClassDef))
            names = [node for node in ast.walk(tree) if isinstance(node, ast.Name)]
            given = {node.id for node in names if isinstance(node.ctx, ast.Store)}
            given.update(node.arg for node in ast.walk(tree) if isinstance(node, ast.arg))
            self.assertEqual(given & taken, set(), name)

    def test_texts_with_names_in_them(self):
        for place, node in nodes_of(ast.FormattedValue):
            self.assertIsInstance(node.value, ast.Name, place)
            self.assertIsNone(node.format_spec, place)
            self.assertIn(node.conversion, [-1, ord("r")], place)

    def test_no_power_but_a_written_one(self):
        for place, node in nodes_of(ast.BinOp):
            if isinstance(node.op, ast.Pow):
                self.assertIsInstance(node.right, ast.Constant, place)

    def test_methods(self):
        own = {node.name for place, node in nodes_of(ast.FunctionDef)}
        for place, node in nodes_of(ast.Call):
            if isinstance(node.func, ast.Attribute):
                self.assertIn(node.func.attr, METHODS | own, place)

    def test_classes(self):
        methods = set()
        values = set()
        for place, node in nodes_of(ast.ClassDef):
            self.assertLessEqual(len(node.bases), 1, place)
            inside = [part.name for part in node.body if isinstance(part, ast.FunctionDef)]
            self.assertEqual(len(inside), len(set(inside)), place)
            self.assertTrue(all(isinstance(part, (ast.FunctionDef, ast.Pass)) for part in node.body), place)
            methods.update(inside)
        for place, node in nodes_of(ast.Attribute):
            if isinstance(node.ctx, ast.Store):
                values.add(node.attr)
        self.assertEqual(methods & values, set())

    def test_is_stands_beside_none_and_truths(self):
        for place, node in nodes_of(ast.Compare):
            for sign, right in zip(node.ops, node.comparators):
                if isinstance(sign, (ast.Is, ast.IsNot)):
                    self.assertIsInstance(right, ast.Constant, place)
                    self.assertIn(right.value, (None, True, False), place)


if __name__ == "__main__":
    unittest.main()
