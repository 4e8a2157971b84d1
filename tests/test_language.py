"""The rules of the language, as far as the package's syntax shows them."""

import ast
import builtins
import pathlib
import re
import unittest

PACKAGE = pathlib.Path(__file__).resolve().parent.parent / "apartbook"
FILES = sorted(PACKAGE.rglob("*.py"))
INSIDE = (
    ast.Module, ast.FunctionDef, ast.arguments, ast.arg, ast.Lambda, ast.ClassDef, ast.ImportFrom, ast.alias,
    ast.Assign, ast.AugAssign, ast.If, ast.While, ast.For, ast.Return, ast.Break, ast.Continue, ast.Pass, ast.Raise,
    ast.Try, ast.ExceptHandler, ast.Expr, ast.Constant, ast.List, ast.Tuple, ast.Dict, ast.Set, ast.BinOp,
    ast.UnaryOp, ast.BoolOp, ast.Compare, ast.IfExp, ast.Call, ast.keyword, ast.Attribute, ast.Subscript, ast.Slice,
    ast.ListComp, ast.comprehension, ast.JoinedStr, ast.FormattedValue, ast.Name, ast.expr_context, ast.operator,
    ast.unaryop, ast.boolop, ast.cmpop,
)
BUILT_IN = (
    "len range enumerate zip min max sum abs sorted reversed int str bool list tuple dict set frozenset isinstance "
    "ord repr any all divmod Exception ValueError TypeError KeyError IndexError LookupError ZeroDivisionError "
    "ArithmeticError OverflowError RuntimeError NotImplementedError AttributeError StopIteration"
).split()
METHODS = (
    "append clear copy count endswith extend find get index insert isalnum isalpha isdigit islower isspace isupper "
    "items join keys ljust lower lstrip partition pop remove replace reverse rfind rjust rpartition rsplit rstrip "
    "setdefault split splitlines startswith strip update upper values zfill bit_length"
).split()
NO_WORDS = (
    "type typing typing_extensions enum Enum IntEnum StrEnum Flag IntFlag Generic Protocol ABC ABCMeta namedtuple "
    "NamedTuple TypedDict TYPE_CHECKING abstractmethod"
).split()
WALKED = ("zip", "enumerate", "reversed", "range", "items", "keys", "values")
WALKERS = ("list", "tuple", "dict", "sorted", "sum", "any", "all", "enumerate", "zip", "min", "max", "join")
KEYWORDS = {
    "sorted": ("key", "reverse"), "min": ("key", "default"), "max": ("key", "default"), "sum": ("start",),
    "enumerate": ("start",), "zip": ("strict",),
}


def nodes():
    for path in FILES:
        for node in ast.walk(ast.parse(path.read_text())):
            yield f"{path.name}:{getattr(node, 'lineno', 0)}", node


class Language(unittest.TestCase):
    def test_files(self):
        self.assertIn(PACKAGE / "__init__.py", FILES)
        for path in PACKAGE.rglob("*"):
            if "__pycache__" not in path.parts:
                self.assertRegex(path.name, r"\A[a-z0-9_]+\.py\Z")
                self.assertNotIn(path.stem, dir(builtins))
                self.assertFalse(path.stem.startswith("test"))

    def test_signs_and_sizes(self):
        for path in FILES:
            rows = path.read_text().split("\n")
            self.assertLessEqual(len(rows) - 1, 400, path.name)
            for row in rows:
                self.assertRegex(row, r"\A[ -~]{0,120}\Z", path.name)

    def test_words_that_stand_nowhere(self):
        for path in FILES:
            words = re.findall(r"[A-Za-z0-9_]+", path.read_text())
            self.assertEqual([word for word in words if word in NO_WORDS], [], path.name)

    def test_only_the_parts_of_python_that_are_listed(self):
        for where, node in nodes():
            self.assertIsInstance(node, INSIDE, where)
            self.assertNotIsInstance(node, (ast.Div, ast.MatMult), where)
            if isinstance(node, ast.Assign):
                self.assertEqual(len(node.targets), 1, where)
                self.assertNotIsInstance(node.targets[0], (ast.Tuple, ast.List), where)
            if isinstance(node, (ast.For, ast.While)):
                self.assertEqual(node.orelse, [], where)
            if isinstance(node, ast.Try):
                self.assertEqual(node.finalbody, [], where)
                self.assertTrue(all(handler.type is not None for handler in node.handlers), where)
            if isinstance(node, ast.ListComp):
                self.assertEqual(len(node.generators), 1, where)
                self.assertLessEqual(len(node.generators[0].ifs), 1, where)
            if isinstance(node, ast.Constant):
                self.assertNotIsInstance(node.value, (float, complex, bytes), where)
                self.assertNotIn("%", str(node.value), where)
            if isinstance(node, ast.FormattedValue):
                self.assertIsInstance(node.value, ast.Name, where)
            if isinstance(node, ast.Compare) and any(isinstance(op, (ast.Is, ast.IsNot)) for op in node.ops):
                self.assertIn(ast.unparse(node.comparators[-1]), ("None", "True", "False"), where)
            if isinstance(node, ast.BinOp) and isinstance(node.op, ast.Pow):
                self.assertIsInstance(node.right, ast.Constant, where)

    def test_functions_and_classes(self):
        for where, node in nodes():
            if isinstance(node, ast.FunctionDef):
                self.assertLessEqual(node.end_lineno - node.lineno + 1, 40, where)
                self.assertEqual(node.decorator_list, [], where)
                given = node.args
                self.assertEqual((given.vararg, given.kwarg, given.kwonlyargs, given.posonlyargs), (None, None, [], []))
            if isinstance(node, ast.ClassDef):
                self.assertLessEqual(len(node.bases), 1, where)
                self.assertEqual((node.decorator_list, node.keywords), ([], []), where)
                for part in node.body:
                    self.assertIsInstance(part, (ast.FunctionDef, ast.Pass), where)

    def test_imports(self):
        for where, node in nodes():
            if isinstance(node, ast.ImportFrom):
                self.assertRegex(node.module, r"\Aapartbook\.[a-z_]+\Z", where)
                self.assertEqual(node.level, 0, where)
                tree = ast.parse((PACKAGE / (node.module.split(".")[1] + ".py")).read_text())
                for name in node.names:
                    self.assertIsNone(name.asname, where)
                    self.assertIn(name.name, top_names(tree), where)

    def test_names(self):
        for where, node in nodes():
            if isinstance(node, ast.Name):
                if isinstance(node.ctx, ast.Store):
                    self.assertNotIn(node.id, dir(builtins), where)
                elif node.id in dir(builtins):
                    self.assertIn(node.id, BUILT_IN, where)
                self.assertFalse(node.id.startswith("_"), where)
            if isinstance(node, ast.arg):
                self.assertNotIn(node.arg, dir(builtins), where)
                self.assertFalse(node.arg.startswith("_"), where)

    def test_methods(self):
        own = {node.name for where, node in nodes() if isinstance(node, ast.FunctionDef)}
        for where, node in nodes():
            if isinstance(node, ast.Call) and isinstance(node.func, ast.Attribute):
                self.assertIn(node.func.attr, own | set(METHODS), where)

    def test_no_local_is_called_like_a_class_or_an_import_of_its_file(self):
        for path in FILES:
            tree = ast.parse(path.read_text())
            taken = {node.name for node in ast.walk(tree) if isinstance(node, ast.ClassDef)}
            taken |= {node.name for node in ast.walk(tree) if isinstance(node, ast.alias)}
            for node in ast.walk(tree):
                if isinstance(node, ast.Name) and isinstance(node.ctx, ast.Store):
                    self.assertNotIn(node.id, taken, path.name)
                if isinstance(node, ast.arg):
                    self.assertNotIn(node.arg, taken, path.name)

    def test_what_is_walked_is_walked_on_the_spot(self):
        for path in FILES:
            tree = ast.parse(path.read_text())
            walked = []
            for node in ast.walk(tree):
                if isinstance(node, (ast.For, ast.comprehension)):
                    walked.append(node.iter)
                if isinstance(node, ast.Call) and called(node) in WALKERS:
                    walked.extend(node.args[:1] if called(node) != "zip" else node.args)
            for node in ast.walk(tree):
                if isinstance(node, ast.Call) and called(node) in WALKED:
                    self.assertIn(node, walked, f"{path.name}:{node.lineno}")

    def test_keywords_of_pythons_own(self):
        for where, node in nodes():
            if isinstance(node, ast.Call) and called(node) in BUILT_IN + METHODS:
                for keyword in node.keywords:
                    self.assertIn(keyword.arg, KEYWORDS.get(called(node), ()), where)

    def test_no_set_is_written_or_kept(self):
        for where, node in nodes():
            self.assertNotIsInstance(node, ast.Set, where)
            if isinstance(node, ast.Assign) and isinstance(node.value, ast.Call):
                self.assertNotIn(called(node.value), ("set", "frozenset"), where)

    def test_no_file_draws_from_one_that_draws_from_it(self):
        drawn = {}
        for path in FILES:
            rows = [node for node in ast.parse(path.read_text()).body if isinstance(node, ast.ImportFrom)]
            drawn[path.stem] = {row.module.split(".")[1] for row in rows}
        while drawn:
            free = [name for name in drawn if not drawn[name] & set(drawn)]
            self.assertNotEqual(free, [], drawn)
            drawn = {name: drawn[name] for name in drawn if name not in free}

    def test_no_name_is_a_method_here_and_a_value_there(self):
        methods = set()
        values = set()
        for where, node in nodes():
            if isinstance(node, ast.ClassDef):
                methods |= {part.name for part in node.body if isinstance(part, ast.FunctionDef)}
            if isinstance(node, ast.Attribute) and isinstance(node.ctx, ast.Store):
                values.add(node.attr)
        self.assertEqual(methods & values, set())


def called(node):
    """The name by which a call calls, of a function or of a method."""
    return node.func.attr if isinstance(node.func, ast.Attribute) else getattr(node.func, "id", None)


def top_names(tree):
    names = []
    for node in tree.body:
        if isinstance(node, (ast.FunctionDef, ast.ClassDef)):
            names.append(node.name)
        if isinstance(node, ast.Assign):
            names.append(node.targets[0].id)
    return names


if __name__ == "__main__":
    unittest.main()
