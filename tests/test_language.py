"""What of the rules for the package's files a test can see."""
import ast
import builtins
import pathlib
import re
import unittest

PACKAGE = pathlib.Path(__file__).resolve().parent.parent / "lettolls"
FILES = sorted(PACKAGE.glob("*.py"))
TREES = {path.name: ast.parse(path.read_text()) for path in FILES}
BARRED_WORDS = ("type typing typing_extensions enum Enum IntEnum StrEnum Flag IntFlag Generic Protocol ABC ABCMeta "
                "namedtuple NamedTuple TypedDict TYPE_CHECKING abstractmethod").split()
BUILTINS = ("len range enumerate zip min max sum abs sorted reversed int str bool bytes list tuple dict set frozenset "
            "isinstance ord repr any all divmod iter next super Exception ValueError TypeError KeyError IndexError "
            "LookupError ZeroDivisionError ArithmeticError OverflowError RuntimeError NotImplementedError "
            "AttributeError StopIteration NotImplemented").split()
DOUBLE = "__init__ __eq__ __repr__ __str__ __len__".split()


def nodes(*kinds):
    for name, tree in TREES.items():
        for node in ast.walk(tree):
            if isinstance(node, kinds):
                yield name, node


class Files(unittest.TestCase):
    def test_the_folder_holds_source_files_only(self):
        names = {path.name for path in PACKAGE.iterdir()} - {"__pycache__"}
        self.assertEqual(names, set(TREES))
        self.assertIn("__init__.py", names)
        for name in names - {"__init__.py"}:
            self.assertRegex(name, r"\A[a-z][a-z0-9_]*\.py\Z")

    def test_signs_and_sizes(self):
        for path in FILES:
            text = path.read_text()
            self.assertRegex(text, r"\A[ -~\n]*\Z", path.name)
            self.assertLessEqual(len(text.splitlines()), 400, path.name)
            self.assertLessEqual(max(map(len, text.splitlines())), 120, path.name)

    def test_barred_words(self):
        for path in FILES:
            words = re.findall(r"\w+", path.read_text())
            self.assertFalse(set(words) & set(BARRED_WORDS), path.name)
            self.assertNotRegex(path.read_text(), "dataclass|overload|contextmanager")

    def test_imports_stand_on_top_and_are_the_packages_own(self):
        for name, node in nodes(ast.Import, ast.ImportFrom):
            self.assertIsInstance(node, ast.ImportFrom, name)
            self.assertRegex(node.module, r"\Alettolls\.[a-z_]+\Z", name)
            self.assertIn(node.module.partition(".")[2] + ".py", TREES, name)
            self.assertEqual((node.level, node.col_offset), (0, 0), name)


class Rows(unittest.TestCase):
    def test_functions_are_short(self):
        for name, node in nodes(ast.FunctionDef):
            self.assertLessEqual(node.end_lineno - node.lineno + 1, 40, f"{name} {node.name}")

    def test_names(self):
        for name, node in nodes(ast.FunctionDef, ast.ClassDef, ast.Name, ast.Attribute, ast.arg):
            words = [getattr(node, field, None) for field in ("name", "id", "attr", "arg")]
            for word in words:
                if word is not None and word not in DOUBLE:
                    self.assertFalse(word.startswith("_"), f"{name} {word}")

    def test_builtins(self):
        for name, node in nodes(ast.Name):
            if hasattr(builtins, node.id):
                self.assertIn(node.id, BUILTINS, name)
                self.assertIsInstance(node.ctx, ast.Load, f"{name} {node.id}")
        for name, node in nodes(ast.arg):
            self.assertFalse(hasattr(builtins, node.arg), f"{name} {node.arg}")

    def test_no_barred_statement_and_no_division(self):
        barred = (ast.Global, ast.AsyncFunctionDef, ast.Await, ast.Div)
        self.assertEqual([name for name, _ in nodes(*barred)], [])

    def test_no_float_and_no_percent_sign(self):
        for name, node in nodes(ast.Constant):
            self.assertNotIsInstance(node.value, (float, complex), name)
            if isinstance(node.value, str):
                self.assertNotIn("%", node.value, name)

    def test_is_stands_beside_none_true_and_false_only(self):
        for name, node in nodes(ast.Compare):
            for sign, side in zip(node.ops, node.comparators):
                if isinstance(sign, (ast.Is, ast.IsNot)):
                    self.assertTrue(isinstance(side, ast.Constant) and side.value in (None, True, False), name)

    def test_lists_stand_where_generators_would(self):
        self.assertEqual([name for name, _ in nodes(ast.GeneratorExp)], [])

    def test_len_tells_a_len_or_a_number(self):
        for name, node in nodes(ast.FunctionDef):
            if node.name == "__len__":
                for told in [part.value for part in ast.walk(node) if isinstance(part, ast.Return)]:
                    by_len = isinstance(told, ast.Call) and told.func.id == "len"
                    self.assertTrue(by_len or isinstance(told, ast.Constant), name)

    def test_no_name_is_a_method_and_an_attribute(self):
        methods = {part.name for _, node in nodes(ast.ClassDef)
                   for part in node.body if isinstance(part, ast.FunctionDef)}
        attributes = {node.attr for _, node in nodes(ast.Attribute) if isinstance(node.ctx, ast.Store)}
        self.assertFalse(methods & attributes)


if __name__ == "__main__":
    unittest.main()
