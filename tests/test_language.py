"""What of the rules for the package's files a test can see."""
import ast
import builtins
import pathlib
import re
import unittest

PACKAGE = pathlib.Path(__file__).resolve().parent.parent / "lettolls"
FILES = sorted(PACKAGE.glob("*.py"))
TREES = {path.name: ast.parse(path.read_text()) for path in FILES}
BARRED_WORDS = ("type typing typing_extensions enum Enum IntEnum StrEnum Flag IntFlag Generic Protocol ABC ABCMeta "
                "namedtuple NamedTuple TypedDict TYPE_CHECKING abstractmethod").split()
BUILTINS = ("len range enumerate zip min max sum abs sorted reversed int str bool bytes list tuple dict set frozenset "
            "isinstance ord repr any all divmod iter next super Exception ValueError TypeError KeyError IndexError "
            "LookupError ZeroDivisionError ArithmeticError OverflowError RuntimeError NotImplementedError "
            "AttributeError StopIteration NotImplemented").split()
DOUBLE = "__init__ __eq__ __repr__ __str__ __len__".split()
# of the methods of builtin values those that the rules list first, without .sort()
METHODS = ("append clear copy count endswith extend find get index insert isalnum isalpha isdigit islower isspace "
           "isupper items join keys ljust lower lstrip partition pop remove replace reverse rfind rjust rpartition "
           "rsplit rstrip setdefault split splitlines startswith strip update upper values zfill bit_length "
           "add discard").split()
BARRED_NAMES = ("register mro elements open input version_info with_traceback add_note attrgetter breakpoint builtins "
                "compile copyright credits delattr dir eval exec exit gc getattr globals hasattr help id importlib "
                "license locals methodcaller os quit setattr super type vars sys").split()


def nodes(*kinds):
    for name, tree in TREES.items():
        for node in ast.walk(tree):
            if isinstance(node, kinds):
                yield name, node


def imports_of(tree):
    return {part.name for node in tree.body if isinstance(node, ast.ImportFrom) for part in node.names}


def names_at_module_level(tree):
    """The names that a file binds itself."""
    names = [node.name for node in tree.body if isinstance(node, (ast.FunctionDef, ast.ClassDef))]
    for node in tree.body:
        if isinstance(node, ast.Assign):
            names += [target.id for target in node.targets]
    return names


class Files(unittest.TestCase):
    def test_the_folder_holds_source_files_only(self):
        names = {path.name for path in PACKAGE.iterdir()} - {"__pycache__"}
        self.assertEqual(names, set(TREES))
        self.assertIn("__init__.py", names)
        for name in names - {"__init__.py"}:
            self.assertRegex(name, r"\A[a-z][a-z0-9_]*\.py\Z")

    def test_signs_and_sizes(self):
        for path in FILES:
            text = path.read_text()
            self.assertRegex(text, r"\A[ -~\n]*\Z", path.name)
            self.assertLessEqual(len(text.splitlines()), 400, path.name)
            self.assertLessEqual(max(map(len, text.splitlines())), 120, path.name)

    def test_barred_words(self):
        for path in FILES:
            words = re.findall(r"\w+", path.read_text())
            self.assertFalse(set(words) & set(BARRED_WORDS), path.name)
            self.assertNotRegex(path.read_text(), "dataclass|overload|contextmanager")

    def test_imports_stand_on_top_and_are_the_packages_own(self):
        for name, node in nodes(ast.Import, ast.ImportFrom):
            self.assertIsInstance(node, ast.ImportFrom, name)
            self.assertRegex(node.module, r"\Alettolls\.[a-z_]+\Z", name)
            self.assertIn(node.module.partition(".")[2] + ".py", TREES, name)
            self.assertEqual((node.level, node.col_offset), (0, 0), name)


    def test_imports_name_the_file_that_defines_the_name(self):
        for name, node in nodes(ast.ImportFrom):
            defined = names_at_module_level(TREES[node.module.partition(".")[2] + ".py"])
            for part in node.names:
                self.assertIsNone(part.asname, name)
                self.assertIn(part.name, defined, f"{name} {part.name}")

    def test_what_is_imported_is_used(self):
        for name, tree in TREES.items():
            used = {node.id for node in ast.walk(tree) if isinstance(node, ast.Name)}
            self.assertLessEqual(imports_of(tree), used, name)

    def test_no_two_files_import_from_each_other(self):
        left = {name: {node.module.partition(".")[2] + ".py" for node in tree.body if isinstance(node, ast.ImportFrom)}
                for name, tree in TREES.items()}
        while left:
            free = [name for name in left if not left[name] & set(left)]
            self.assertTrue(free, f"a ring of imports among {sorted(left)}")
            for name in free:
                del left[name]


class Rows(unittest.TestCase):
    def test_functions_are_short(self):
        for name, node in nodes(ast.FunctionDef):
            self.assertLessEqual(node.end_lineno - node.lineno + 1, 40, f"{name} {node.name}")

    def test_names(self):
        for name, node in nodes(ast.FunctionDef, ast.ClassDef, ast.Name, ast.Attribute, ast.arg):
            words = [getattr(node, field, None) for field in ("name", "id", "attr", "arg")]
            for word in words:
                if word is not None and word not in DOUBLE:
                    self.assertFalse(word.startswith("_"), f"{name} {word}")

    def test_builtins(self):
        for name, node in nodes(ast.Name):
            if hasattr(builtins, node.id):
                self.assertIn(node.id, BUILTINS, name)
                self.assertIsInstance(node.ctx, ast.Load, f"{name} {node.id}")
        for name, node in nodes(ast.arg):
            self.assertFalse(hasattr(builtins, node.arg), f"{name} {node.arg}")

    def test_no_barred_statement_and_no_division(self):
        barred = (ast.Global, ast.AsyncFunctionDef, ast.Await, ast.Div)
        self.assertEqual([name for name, _ in nodes(*barred)], [])

    def test_no_float_and_no_percent_sign(self):
        for name, node in nodes(ast.Constant):
            self.assertNotIsInstance(node.value, (float, complex), name)
            if isinstance(node.value, str):
                self.assertNotIn("%", node.value, name)

    def test_is_stands_beside_none_true_and_false_only(self):
        for name, node in nodes(ast.Compare):
            for sign, side in zip(node.ops, node.comparators):
                if isinstance(sign, (ast.Is, ast.IsNot)):
                    self.assertTrue(isinstance(side, ast.Constant) and side.value in (None, True, False), name)

    def test_lists_stand_where_generators_would(self):
        self.assertEqual([name for name, _ in nodes(ast.GeneratorExp)], [])

    def test_len_tells_a_len_or_a_number(self):
        for name, node in nodes(ast.FunctionDef):
            if node.name == "__len__":
                for told in [part.value for part in ast.walk(node) if isinstance(part, ast.Return)]:
                    by_len = isinstance(told, ast.Call) and told.func.id == "len"
                    self.assertTrue(by_len or isinstance(told, ast.Constant), name)

    def test_no_name_is_a_method_and_an_attribute(self):
        methods = {part.name for _, node in nodes(ast.ClassDef)
                   for part in node.body if isinstance(part, ast.FunctionDef)}
        attributes = {node.attr for _, node in nodes(ast.Attribute) if isinstance(node.ctx, ast.Store)}
        self.assertFalse(methods & attributes)

    def test_a_name_is_bound_once_at_module_level(self):
        for name, tree in TREES.items():
            names = names_at_module_level(tree) + sorted(imports_of(tree))
            self.assertEqual(len(names), len(set(names)), name)

    def test_no_local_name_is_that_of_a_class_or_an_import(self):
        for name, tree in TREES.items():
            taken = imports_of(tree) | {node.name for node in tree.body if isinstance(node, ast.ClassDef)}
            for node in ast.walk(tree):
                if isinstance(node, ast.arg):
                    self.assertNotIn(node.arg, taken, name)
                if isinstance(node, ast.Name) and isinstance(node.ctx, ast.Store):
                    self.assertNotIn(node.id, taken, name)

    def test_barred_names(self):
        for name, node in nodes(ast.FunctionDef, ast.ClassDef, ast.Name, ast.Attribute, ast.arg, ast.keyword):
            for word in [getattr(node, field, None) for field in ("name", "id", "attr", "arg")]:
                self.assertNotIn(word, BARRED_NAMES, name)

    def test_methods_are_own_ones_or_listed(self):
        own = {part.name for _, node in nodes(ast.ClassDef) for part in node.body if isinstance(part, ast.FunctionDef)}
        for name, node in nodes(ast.Call):
            if isinstance(node.func, ast.Attribute):
                self.assertIn(node.func.attr, own | set(METHODS), name)

    def test_module_level_has_plain_values(self):
        for name, tree in TREES.items():
            for node in tree.body:
                if isinstance(node, ast.Assign):
                    inside = list(ast.walk(node.value))[1:]
                    barred = (ast.Call, ast.List, ast.Dict, ast.Set, ast.ListComp, ast.Subscript, ast.Lambda)
                    self.assertFalse([part for part in inside if isinstance(part, barred)], name)

    def test_sets_stand_in_sorted_and_len_only(self):
        held = [part for _, node in nodes(ast.Call) if isinstance(node.func, ast.Name)
                and node.func.id in ("sorted", "len") for part in node.args]
        for name, node in nodes(ast.Call, ast.SetComp, ast.Set):
            if not isinstance(node, ast.Call) or isinstance(node.func, ast.Name) and node.func.id == "set":
                self.assertIn(node, held, name)

    def test_errors_are_raised_on_the_spot_and_none_of_pythons_is_caught(self):
        for name, node in nodes(ast.Raise):
            self.assertIsInstance(node.exc, ast.Call, name)
            self.assertIsInstance(node.exc.func, ast.Name, name)
        for name, node in nodes(ast.ExceptHandler):
            self.assertIsInstance(node.type, ast.Name, name)
            self.assertFalse(hasattr(builtins, node.type.id), name)

    def test_escapes(self):
        for path in FILES:
            self.assertNotRegex(path.read_text().replace("\\\\", ""), r"\\[^nt\"']", path.name)


if __name__ == "__main__":
    unittest.main()
