"""The package's form: those rules of LANGUAGE.md that are told by a short look at its files."""

import ast
import builtins
import pathlib
import re
import unittest

PACKAGE = pathlib.Path(__file__).resolve().parent.parent / "lostblock"

STATEMENTS = (
    ast.FunctionDef, ast.ClassDef, ast.ImportFrom, ast.Assign, ast.AugAssign, ast.If, ast.While, ast.For,
    ast.Return, ast.Break, ast.Continue, ast.Pass, ast.Raise, ast.Try, ast.Expr,
)
EXPRESSIONS = (
    ast.Constant, ast.Name, ast.List, ast.Tuple, ast.Dict, ast.BinOp, ast.UnaryOp, ast.BoolOp, ast.Compare,
    ast.IfExp, ast.Call, ast.Attribute, ast.Subscript, ast.Slice, ast.ListComp, ast.Lambda, ast.JoinedStr,
    ast.FormattedValue,
)
BUILTINS = set(
    "len range enumerate zip min max sum abs sorted reversed int str bool list tuple dict set frozenset isinstance "
    "ord repr any all divmod ValueError KeyError IndexError LookupError ZeroDivisionError ArithmeticError "
    "OverflowError RuntimeError NotImplementedError StopIteration Exception".split()
)
DOUBLE_UNDERSCORES = ("__init__", "__eq__", "__repr__", "__str__", "__len__")
METHODS = set(
    "append clear copy count endswith extend find get index insert isalnum isalpha isdigit islower isspace isupper "
    "items join keys ljust lower lstrip partition pop remove replace reverse rfind rjust rpartition rsplit rstrip "
    "setdefault split splitlines startswith strip update upper values zfill bit_length".split()
)
WORDS_NOWHERE = (
    r"\b(type|typing|typing_extensions|enum|Enum|IntEnum|StrEnum|Flag|IntFlag|Generic|Protocol|ABC|ABCMeta"
    r"|namedtuple|NamedTuple|TypedDict|TYPE_CHECKING|abstractmethod)\b|dataclass|overload|contextmanager"
)
WALKED_AT_ONCE = ("zip", "enumerate", "reversed", "range", "items", "keys", "values")
WALKERS = ("list", "tuple", "dict", "sorted", "sum", "any", "all", "enumerate", "zip", "min", "max")


def files():
    return sorted(path for path in PACKAGE.iterdir() if path.name != "__pycache__")


def trees():
    return [(path.name, ast.parse(path.read_text("ascii"))) for path in files()]


def nodes(kind):
    return [(name, node) for name, tree in trees() for node in ast.walk(tree) if isinstance(node, kind)]


def called(node):
    """The name of what a call calls: a function's or a method's."""
    return node.func.attr if isinstance(node.func, ast.Attribute) else getattr(node.func, "id", None)


def parents(tree):
    return {child: node for node in ast.walk(tree) for child in ast.iter_child_nodes(node)}


def is_walked(call, parent):
    if isinstance(parent, (ast.For, ast.comprehension)):
        return parent.iter is call
    return isinstance(parent, ast.Call) and called(parent) in WALKERS and parent.args[0] is call


def drawn_from(tree):
    return {node.module.split(".")[1] for node in tree.body if isinstance(node, ast.ImportFrom)}


class Form(unittest.TestCase):
    def test_files(self):
        self.assertIn("__init__.py", [path.name for path in files()])
        for path in files():
            self.assertTrue(path.is_file(), path.name)
            self.assertRegex(path.name, r"\A(__init__|__main__|[a-z][a-z0-9_]*)\.py\Z")

    def test_signs_and_sizes(self):
        for path in files():
            text = path.read_bytes().decode("ascii")
            self.assertRegex(text, r"\A[ -~\n]*\Z", path.name)
            self.assertIsNone(re.search(WORDS_NOWHERE, text), path.name)
            self.assertLessEqual(len(text.split("\n")), 400, path.name)
            self.assertLessEqual(max(map(len, text.split("\n"))), 120, path.name)
        for name, node in nodes(ast.FunctionDef):
            self.assertLessEqual(node.end_lineno - node.lineno + 1, 40, (name, node.name))

    def test_statements_and_expressions(self):
        for name, node in nodes((ast.stmt, ast.expr)):
            self.assertIsInstance(node, STATEMENTS + EXPRESSIONS, (name, node.lineno))
        for name, node in nodes((ast.For, ast.While)):
            self.assertEqual(node.orelse, [], (name, node.lineno))
        for name, node in nodes(ast.Assign):
            self.assertEqual(len(node.targets), 1, (name, node.lineno))
        for name, node in nodes(ast.ListComp):
            self.assertEqual(len(node.generators), 1, (name, node.lineno))
            self.assertLessEqual(len(node.generators[0].ifs), 1, (name, node.lineno))
        for name, node in nodes(ast.BinOp):
            self.assertNotIsInstance(node.op, (ast.Div, ast.MatMult), (name, node.lineno))
        for name, node in nodes(ast.Constant):
            self.assertIn(type(node.value), (int, str, bool, type(None)), (name, node.lineno))

    def test_texts_by_themselves_stand_at_a_file_s_top_alone(self):
        for name, tree in trees():
            for node in ast.walk(tree):
                if isinstance(node, ast.Expr) and node is not tree.body[0]:
                    self.assertIsInstance(node.value, ast.Call, (name, node.lineno))

    def test_imports(self):
        for name, node in nodes(ast.ImportFrom):
            self.assertEqual(node.level, 0, (name, node.lineno))
            self.assertRegex(node.module, r"\Alostblock\.[a-z]+\Z", (name, node.lineno))
            self.assertNotIn("*", [alias.name for alias in node.names])

    def test_names(self):
        for name, node in nodes(ast.Name):
            if hasattr(builtins, node.id):
                self.assertIn(node.id, BUILTINS, (name, node.lineno))
                self.assertIsInstance(node.ctx, ast.Load, (name, node.lineno))
            self.assertFalse(node.id.startswith("_"), (name, node.lineno))
        for name, node in nodes(ast.arg):
            self.assertFalse(hasattr(builtins, node.arg), (name, node.lineno))
            self.assertFalse(node.arg.startswith("_"), (name, node.lineno))

    def test_functions_and_classes(self):
        for name, node in nodes((ast.FunctionDef, ast.ClassDef)):
            self.assertEqual(node.decorator_list, [], (name, node.name))
        for name, node in nodes(ast.FunctionDef):
            taken = node.args
            self.assertEqual((taken.vararg, taken.kwarg, taken.kwonlyargs), (None, None, []), (name, node.name))
            self.assertTrue(not node.name.startswith("_") or node.name in DOUBLE_UNDERSCORES, (name, node.name))
        for name, node in nodes(ast.ClassDef):
            self.assertLessEqual(len(node.bases), 1, (name, node.name))
            for part in node.body:
                self.assertIsInstance(part, (ast.FunctionDef, ast.Pass), (name, node.name))

    def test_methods_called_are_listed_or_own(self):
        own = {node.name for name, node in nodes(ast.FunctionDef)}
        for name, node in nodes(ast.Call):
            if isinstance(node.func, ast.Attribute):
                self.assertIn(node.func.attr, METHODS | own, (name, node.lineno))

    def test_no_two_files_draw_from_one_another(self):
        left = {name[:-3]: drawn_from(tree) for name, tree in trees()}
        while left:
            free = [name for name in left if not left[name] & set(left)]
            self.assertNotEqual(free, [], left)
            for name in free:
                left.pop(name)

    def test_names_are_drawn_from_the_file_that_defines_them(self):
        tops = {}
        for name, tree in trees():
            tops[name[:-3]] = [getattr(node, "name", None) for node in tree.body] + [
                target.id for node in tree.body if isinstance(node, ast.Assign) for target in node.targets
            ]
        for name, node in nodes(ast.ImportFrom):
            for alias in node.names:
                self.assertIn(alias.name, tops[node.module.split(".")[1]], (name, node.lineno))
                self.assertIsNone(alias.asname, (name, node.lineno))
        for name, bound in tops.items():
            bound = [one for one in bound if one is not None]
            self.assertEqual(len(bound), len(set(bound)), name)

    def test_no_local_is_called_like_an_import_or_a_top_name(self):
        for name, tree in trees():
            tops = {alias.name for node in tree.body if isinstance(node, ast.ImportFrom) for alias in node.names}
            tops |= {node.name for node in tree.body if isinstance(node, (ast.ClassDef, ast.FunctionDef))}
            for part in tree.body:
                if not isinstance(part, (ast.FunctionDef, ast.ClassDef)):
                    continue
                for node in ast.walk(part):
                    if isinstance(node, ast.Name) and isinstance(node.ctx, ast.Store):
                        self.assertNotIn(node.id, tops, (name, node.lineno))
                    if isinstance(node, ast.arg):
                        self.assertNotIn(node.arg, tops, (name, node.lineno))

    def test_no_name_is_a_method_and_a_value(self):
        methods = {part.name for name, node in nodes(ast.ClassDef) for part in node.body if isinstance(part, ast.FunctionDef)}
        for name, node in nodes(ast.Attribute):
            if isinstance(node.ctx, ast.Store):
                self.assertNotIn(node.attr, methods | METHODS, (name, node.lineno))

    def test_is_stands_beside_none_true_and_false_alone(self):
        for name, node in nodes(ast.Compare):
            for operator, other in zip(node.ops, node.comparators):
                if isinstance(operator, (ast.Is, ast.IsNot)):
                    self.assertIsInstance(other, ast.Constant, (name, node.lineno))
                    self.assertIn(other.value, (None, True, False), (name, node.lineno))

    def test_ranges_and_their_like_are_walked_at_once(self):
        for name, tree in trees():
            above = parents(tree)
            for node in ast.walk(tree):
                if isinstance(node, ast.Call) and called(node) in WALKED_AT_ONCE:
                    self.assertTrue(is_walked(node, above[node]), (name, node.lineno))

    def test_what_a_loop_walks_is_not_changed_in_it(self):
        for name, node in nodes(ast.For):
            walked = {part.id for part in ast.walk(node.iter) if isinstance(part, ast.Name)} - {"self"}
            for part in ast.walk(node):
                if isinstance(part, ast.Call) and called(part) in ("append", "extend", "pop", "insert", "remove", "clear"):
                    self.assertNotIn(ast.unparse(part.func.value), walked, (name, part.lineno))
                if isinstance(part, ast.Subscript) and isinstance(part.ctx, ast.Store):
                    self.assertNotIn(ast.unparse(part.value), walked, (name, part.lineno))

    def test_no_sets_and_no_powers(self):
        for name, node in nodes(ast.Name):
            self.assertNotIn(node.id, ("set", "frozenset"), (name, node.lineno))
        for name, node in nodes(ast.BinOp):
            self.assertNotIsInstance(node.op, ast.Pow, (name, node.lineno))
        for name, node in nodes(ast.Constant):
            self.assertNotIn("%", str(node.value), (name, node.lineno))


if __name__ == "__main__":
    unittest.main()
