"""The package's files read as text: no clock, chance, file or outside package can be reached from them."""

import ast
import builtins
import pathlib
import re
import unittest

PACKAGE = pathlib.Path(__file__).resolve().parent.parent / "growbook"

OWN_NAMES = set("""
    len range enumerate zip min max sum abs sorted reversed int str bool list tuple dict set frozenset isinstance
    ord repr any all divmod Exception ValueError TypeError KeyError IndexError LookupError ZeroDivisionError
    ArithmeticError OverflowError RuntimeError NotImplementedError AttributeError StopIteration
""".split())

OWN_METHODS = set("""
    append clear copy count endswith extend find get index insert isalnum isalpha isdigit islower isspace isupper
    items join keys ljust lower lstrip partition pop remove replace reverse rfind rjust rpartition rsplit rstrip
    setdefault split splitlines startswith strip update upper values zfill bit_length
""".split())

WORDS = re.compile(
    r"\b(type|typing|typing_extensions|enum|Enum|IntEnum|StrEnum|Flag|IntFlag|Generic|Protocol|ABC|ABCMeta"
    r"|namedtuple|NamedTuple|TypedDict|TYPE_CHECKING|abstractmethod)\b|dataclass|overload|contextmanager"
)

STATEMENTS = (
    ast.FunctionDef, ast.ClassDef, ast.ImportFrom, ast.Assign, ast.AugAssign, ast.If, ast.While, ast.For, ast.Return,
    ast.Break, ast.Continue, ast.Pass, ast.Raise, ast.Try, ast.Expr,
)

NO_EXPRESSIONS = (
    ast.Set, ast.SetComp, ast.DictComp, ast.GeneratorExp, ast.NamedExpr, ast.Starred, ast.Await, ast.Yield,
    ast.YieldFrom, ast.Div, ast.MatMult,
)

TWO_UNDERSCORES = ("__init__", "__eq__", "__repr__", "__str__", "__len__")


def sources():
    return {path: path.read_text(encoding="utf-8") for path in sorted(PACKAGE.rglob("*.py"))}


def nodes():
    """Each file and each node of its tree."""
    for path, source in sources().items():
        for node in ast.walk(ast.parse(source)):
            yield path, node


class Form(unittest.TestCase):
    def test_the_folder_holds_plain_files_alone(self):
        self.assertTrue((PACKAGE / "__init__.py").is_file())
        for path in PACKAGE.rglob("*"):
            if path.name != "__pycache__" and path.parent.name != "__pycache__":
                self.assertRegex(path.name, r"^[a-z0-9_]+\.py$")

    def test_the_files_of_the_interface_are_there(self):
        names = {path.name for path in sources()}
        needed = ("errors", "stretches", "frontier", "table", "changes", "keeper", "claims", "follower")
        self.assertLessEqual({f"{name}.py" for name in needed}, names)

    def test_imports_are_the_packages_own(self):
        for path, node in nodes():
            self.assertNotIsInstance(node, ast.Import, path)
            if isinstance(node, ast.ImportFrom):
                self.assertEqual(node.level, 0, path)
                self.assertTrue(node.module.startswith("growbook."), f"{path}:{node.lineno}")
                drawn = ast.parse((PACKAGE / f"{node.module.split('.')[1]}.py").read_text(encoding="utf-8"))
                defined = {part.name for part in drawn.body if isinstance(part, (ast.FunctionDef, ast.ClassDef))}
                self.assertLessEqual({name.name for name in node.names}, defined, f"{path}:{node.lineno}")

    def test_no_other_name_of_pythons_own(self):
        for path, node in nodes():
            if isinstance(node, ast.Name) and hasattr(builtins, node.id):
                self.assertIn(node.id, OWN_NAMES, f"{path}:{node.lineno}")
                self.assertIsInstance(node.ctx, ast.Load, f"{path}:{node.lineno}")

    def test_names_are_plain(self):
        for path, node in nodes():
            names = []
            if isinstance(node, ast.Name):
                names.append(node.id)
            elif isinstance(node, ast.Attribute):
                names.append(node.attr)
            elif isinstance(node, ast.arg):
                names.append(node.arg)
                self.assertFalse(hasattr(builtins, node.arg), f"{path}:{node.lineno}")
            elif isinstance(node, (ast.FunctionDef, ast.ClassDef)):
                names.append(node.name)
            for name in names:
                self.assertTrue(name in TWO_UNDERSCORES or not name.startswith("_"), f"{path}:{node.lineno}")

    def test_called_methods_are_listed_or_the_packages_own(self):
        own = {node.name for _, node in nodes() if isinstance(node, ast.FunctionDef)}
        for path, node in nodes():
            if isinstance(node, ast.Call) and isinstance(node.func, ast.Attribute):
                self.assertIn(node.func.attr, own | OWN_METHODS, f"{path}:{node.lineno}")

    def test_no_name_is_a_method_and_a_value(self):
        methods, values = set(), set()
        for _, node in nodes():
            if isinstance(node, ast.ClassDef):
                methods.update(part.name for part in node.body if isinstance(part, ast.FunctionDef))
            elif isinstance(node, ast.Attribute) and isinstance(node.ctx, ast.Store):
                values.add(node.attr)
        self.assertEqual(methods & values, set())

    def test_no_local_is_called_like_a_class_or_an_import_of_its_file(self):
        for path, source in sources().items():
            tree = ast.parse(source)
            drawn = {name.name for part in tree.body if isinstance(part, ast.ImportFrom) for name in part.names}
            made = {part.name for part in tree.body if isinstance(part, ast.ClassDef)}
            for node in ast.walk(tree):
                if isinstance(node, ast.arg):
                    self.assertNotIn(node.arg, drawn | made, f"{path}:{node.lineno}")
                elif isinstance(node, ast.Name) and isinstance(node.ctx, ast.Store):
                    self.assertNotIn(node.id, drawn | made, f"{path}:{node.lineno}")

    def test_is_stands_beside_none_true_and_false_alone(self):
        for path, node in nodes():
            if isinstance(node, ast.Compare) and isinstance(node.ops[0], (ast.Is, ast.IsNot)):
                beside = [part.value for part in (node.left, *node.comparators) if isinstance(part, ast.Constant)]
                self.assertTrue(any(value is thing for value in beside for thing in (None, True, False)), path)

    def test_errors_are_taken_by_the_programs_own_names(self):
        own = {node.name for _, node in nodes() if isinstance(node, ast.ClassDef)}
        for path, node in nodes():
            if isinstance(node, ast.ExceptHandler):
                self.assertIsInstance(node.type, ast.Name, f"{path}:{node.lineno}")
                self.assertIn(node.type.id, own, f"{path}:{node.lineno}")

    def test_statements_and_expressions(self):
        for path, node in nodes():
            where = f"{path}:{getattr(node, 'lineno', 0)}"
            self.assertNotIsInstance(node, NO_EXPRESSIONS, where)
            if isinstance(node, ast.stmt):
                self.assertIsInstance(node, STATEMENTS, where)
            if isinstance(node, ast.Constant) and node.value is not None:
                self.assertIn(type(node.value), (int, str, bool), where)
            if isinstance(node, (ast.FunctionDef, ast.ClassDef)):
                self.assertEqual(node.decorator_list, [], where)
                for part in node.body:
                    if isinstance(part, ast.Expr):
                        self.assertIsInstance(part.value, ast.Call, where)

    def test_sizes_and_signs(self):
        for path, source in sources().items():
            self.assertRegex(source, r"\A[\n -~]*\Z", path)
            self.assertIsNone(WORDS.search(source), path)
            lines = source.splitlines()
            self.assertLessEqual(len(lines), 400, path)
            for line in lines:
                self.assertLessEqual(len(line), 120, path)
        for path, node in nodes():
            if isinstance(node, ast.FunctionDef):
                self.assertLessEqual(node.end_lineno - node.lineno + 1, 40, f"{path}:{node.lineno}")


if __name__ == "__main__":
    unittest.main()
