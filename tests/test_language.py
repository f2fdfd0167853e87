"""The form of the package's files, as far as it is told by looking at them."""

import ast
import builtins
import pathlib
import re
import unittest

PACKAGE = pathlib.Path(__file__).resolve().parent.parent / "trickproof"
STATEMENTS = (ast.FunctionDef, ast.ClassDef, ast.ImportFrom, ast.Assign, ast.AugAssign, ast.If, ast.While, ast.For,
              ast.Return, ast.Break, ast.Continue, ast.Pass, ast.Raise, ast.Try, ast.Expr)
UNUSED = (ast.SetComp, ast.DictComp, ast.GeneratorExp, ast.NamedExpr, ast.Starred, ast.Await,
          ast.Yield, ast.YieldFrom, ast.Div, ast.MatMult, ast.AnnAssign)
BUILT_INS = set("""len range enumerate zip min max sum abs sorted reversed int str bool list tuple dict set frozenset
    isinstance ord repr any all divmod Exception ValueError TypeError KeyError IndexError LookupError
    ZeroDivisionError ArithmeticError OverflowError RuntimeError NotImplementedError AttributeError
    StopIteration""".split())
METHODS = set("""append clear copy count endswith extend find get index insert isalnum isalpha isdigit islower isspace
    isupper items join keys ljust lower lstrip partition pop remove replace reverse rfind rjust rpartition rsplit
    rstrip setdefault split splitlines startswith strip update upper values zfill bit_length""".split())
OWN_DOUBLES = ("__init__", "__eq__", "__repr__", "__str__", "__len__")
WORDS = set("""type typing typing_extensions enum Enum IntEnum StrEnum Flag IntFlag Generic Protocol ABC ABCMeta
    namedtuple NamedTuple TypedDict TYPE_CHECKING abstractmethod""".split())


def files():
    return sorted(path for path in PACKAGE.rglob("*") if "__pycache__" not in path.parts and path.is_file())


def trees():
    return [(path, ast.parse(path.read_text("utf-8"))) for path in files()]


def nodes(kind):
    return [(path, node) for path, tree in trees() for node in ast.walk(tree) if isinstance(node, kind)]


def defined_in(tree):
    """The names that a file's top defines itself."""
    names = {node.name for node in tree.body if isinstance(node, (ast.FunctionDef, ast.ClassDef))}
    return names | {target.id for node in tree.body if isinstance(node, ast.Assign) for target in node.targets}


def where(path, node):
    return f"{path.name}:{node.lineno}"


class FilesTest(unittest.TestCase):
    def test_names(self):
        self.assertTrue(files())
        for path in files():
            self.assertRegex(path.name, r"^(__init__|__main__|[a-z][a-z0-9_]*)\.py$")
            self.assertNotIn(path.stem, dir(builtins))

    def test_signs_and_sizes(self):
        for path in files():
            text = path.read_bytes().decode("utf-8")
            self.assertRegex(text, r"\A[ -~\n]*\Z", path.name)
            rows = text.split("\n")
            self.assertLessEqual(len(rows), 400, path.name)
            self.assertLessEqual(max(len(row) for row in rows), 120, path.name)

    def test_words(self):
        for path in files():
            text = path.read_text("utf-8")
            self.assertFalse(WORDS & set(re.findall(r"\w+", text)), path.name)
            self.assertNotRegex(text, "dataclass|overload|contextmanager", path.name)


class FormTest(unittest.TestCase):
    def test_functions(self):
        for path, node in nodes(ast.FunctionDef):
            self.assertLessEqual(node.end_lineno - node.lineno + 1, 40, where(path, node))
            self.assertEqual(node.decorator_list, [], where(path, node))
            given = node.args
            self.assertEqual((given.vararg, given.kwarg, given.kwonlyargs, given.posonlyargs), (None, None, [], []))

    def test_statements(self):
        for path, node in nodes(ast.stmt):
            self.assertIsInstance(node, STATEMENTS, where(path, node))
            if isinstance(node, (ast.For, ast.While)):
                self.assertEqual(node.orelse, [], where(path, node))
            if isinstance(node, ast.Assign):
                self.assertEqual(len(node.targets), 1, where(path, node))

    def test_expressions(self):
        for path, node in nodes(ast.AST):
            self.assertNotIsInstance(node, UNUSED)
            if isinstance(node, ast.Constant):
                self.assertNotIsInstance(node.value, (float, complex, bytes), where(path, node))

    def test_comprehensions(self):
        for path, node in nodes(ast.ListComp):
            self.assertEqual(len(node.generators), 1, where(path, node))
            self.assertLessEqual(len(node.generators[0].ifs), 1, where(path, node))

    def test_is_stands_beside_none_true_and_false(self):
        for path, node in nodes(ast.Compare):
            for sign, other in zip(node.ops, node.comparators):
                if isinstance(sign, (ast.Is, ast.IsNot)):
                    self.assertIsInstance(other, ast.Constant, where(path, node))
                    self.assertIn(other.value, (None, True, False), where(path, node))

    def test_no_power_without_a_written_exponent(self):
        for path, node in nodes(ast.BinOp):
            if isinstance(node.op, ast.Pow):
                self.assertIsInstance(node.right, ast.Constant, where(path, node))

    def test_imports(self):
        for path, tree in trees():
            for node in tree.body:
                if isinstance(node, ast.ImportFrom):
                    self.assertEqual(node.level, 0, where(path, node))
                    self.assertRegex(node.module, r"^trickproof\.[a-z]+$", where(path, node))

    def test_names(self):
        for path, node in nodes(ast.Name):
            self.assertRegex(node.id, "^[A-Za-z]", where(path, node))
            if node.id in dir(builtins):
                self.assertIn(node.id, BUILT_INS, where(path, node))
                self.assertIsInstance(node.ctx, ast.Load, where(path, node))
        for path, node in nodes(ast.arg):
            self.assertRegex(node.arg, "^[A-Za-z]", where(path, node))
            self.assertNotIn(node.arg, dir(builtins), where(path, node))
        for path, node in nodes(ast.FunctionDef):
            if node.name not in OWN_DOUBLES:
                self.assertRegex(node.name, "^[A-Za-z]", where(path, node))

    def test_methods(self):
        own = {node.name for path, node in nodes(ast.FunctionDef)}
        for path, node in nodes(ast.Call):
            if isinstance(node.func, ast.Attribute):
                self.assertIn(node.func.attr, METHODS | own, where(path, node))

    def test_no_name_is_a_method_and_a_value(self):
        methods = {node.name for path, owner in nodes(ast.ClassDef) for node in owner.body
                   if isinstance(node, ast.FunctionDef)}
        values = {node.attr for path, node in nodes(ast.Attribute) if isinstance(node.ctx, ast.Store)}
        self.assertFalse(methods & values)

    def test_no_local_is_called_like_a_class_or_an_import(self):
        for path, tree in trees():
            taken = {node.name for node in tree.body if isinstance(node, ast.ClassDef)}
            taken |= {name.name for node in tree.body if isinstance(node, ast.ImportFrom) for name in node.names}
            for node in ast.walk(tree):
                if isinstance(node, ast.arg):
                    self.assertNotIn(node.arg, taken, where(path, node))
                if isinstance(node, ast.Name) and isinstance(node.ctx, ast.Store):
                    self.assertNotIn(node.id, taken, where(path, node))

    def test_names_are_drawn_from_the_file_that_defines_them(self):
        defined = {path.stem: defined_in(tree) for path, tree in trees()}
        for path, node in nodes(ast.ImportFrom):
            for name in node.names:
                self.assertIn(name.name, defined[node.module.split(".")[1]], where(path, node))

    def test_no_two_files_draw_from_one_another(self):
        drawn = {path.stem: {node.module.split(".")[1] for node in tree.body if isinstance(node, ast.ImportFrom)}
                 for path, tree in trees()}
        while drawn:
            free = [name for name, others in drawn.items() if not others & set(drawn)]
            self.assertTrue(free, sorted(drawn))
            for name in free:
                drawn.pop(name)


if __name__ == "__main__":
    unittest.main()
