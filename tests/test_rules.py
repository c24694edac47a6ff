"""Such rules of the language's subset as a plain look at the package's files can hold."""

import ast
import pathlib
import re
import unittest

PACKAGE = pathlib.Path(__file__).resolve().parent.parent / "lotheads"
FILES = sorted(PACKAGE.glob("*.py"))
BARRED = (
    "type typing typing_extensions enum Enum IntEnum StrEnum Flag IntFlag Generic Protocol ABC ABCMeta namedtuple "
    "NamedTuple TypedDict TYPE_CHECKING abstractmethod"
).split()
BUILTINS = (
    "len range enumerate zip min max sum abs sorted reversed int str bool bytes list tuple dict set frozenset "
    "isinstance ord repr any all divmod super Exception ValueError TypeError KeyError IndexError LookupError "
    "ZeroDivisionError ArithmeticError OverflowError RuntimeError NotImplementedError AttributeError StopIteration"
).split()


def nodes(path, kinds):
    return [node for node in ast.walk(ast.parse(path.read_text())) if isinstance(node, kinds)]


class Rules(unittest.TestCase):
    def test_the_folder_has_python_files_alone(self):
        names = [path.name for path in PACKAGE.iterdir() if path.name != "__pycache__"]
        self.assertIn("__init__.py", names)
        for name in names:
            self.assertRegex(name, r"^[a-z0-9_]+\.py$")

    def test_sizes_and_signs(self):
        for path in FILES:
            lines = path.read_text().split("\n")
            self.assertLessEqual(len(lines), 400, path)
            for line in lines:
                self.assertLessEqual(len(line), 120, path)
                self.assertRegex(line, r"^[ -~]*$", path)
            for node in nodes(path, ast.FunctionDef):
                self.assertLessEqual(node.end_lineno - node.lineno + 1, 40, (path, node.name))

    def test_barred_words(self):
        for path in FILES:
            for word in BARRED:
                self.assertIsNone(re.search(rf"\b{word}\b", path.read_text()), (path, word))

    def test_imports_are_of_the_package_alone_and_name_what_a_file_defines(self):
        for path in FILES:
            self.assertEqual([], nodes(path, ast.Import), path)
            for node in nodes(path, ast.ImportFrom):
                self.assertRegex(node.module, r"^lotheads\.[a-z]+$", path)
                other = PACKAGE / (node.module.split(".")[1] + ".py")
                for alias in node.names:
                    self.assertIn(alias.name, defined(other), path)

    def test_no_other_builtins_and_no_name_of_one_or_of_an_import(self):
        for path in FILES:
            taken = set(dir(__import__("builtins")))
            taken |= {alias.name for node in nodes(path, ast.ImportFrom) for alias in node.names}
            for node in nodes(path, ast.Name):
                if isinstance(node.ctx, ast.Store):
                    self.assertNotIn(node.id, taken, path)
                    self.assertFalse(node.id.startswith("_"), path)
                elif node.id in dir(__import__("builtins")):
                    self.assertIn(node.id, BUILTINS, path)
            for node in nodes(path, ast.arg):
                self.assertNotIn(node.arg, taken, path)

    def test_no_points_no_division_no_global(self):
        for path in FILES:
            self.assertEqual([], nodes(path, (ast.Div, ast.Global, ast.NamedExpr, ast.AsyncFunctionDef)), path)
            for node in nodes(path, ast.Constant):
                self.assertNotIsInstance(node.value, (float, complex), path)

    def test_no_name_is_a_method_and_an_attribute(self):
        methods, attributes = set(), set()
        for path in FILES:
            for node in nodes(path, ast.ClassDef):
                names = [inner.name for inner in node.body if isinstance(inner, ast.FunctionDef)]
                self.assertEqual(len(names), len(set(names)), path)
                methods |= set(names)
            attributes |= {node.attr for node in nodes(path, ast.Attribute) if isinstance(node.ctx, ast.Store)}
        self.assertEqual(set(), methods & attributes)
        self.assertEqual([], [name for name in attributes if hasattr("", name) or hasattr({}, name)])

    def test_no_sets(self):
        for path in FILES:
            self.assertEqual([], nodes(path, (ast.Set, ast.SetComp)), path)
            names = [node.id for node in nodes(path, ast.Name)]
            self.assertNotIn("set", names, path)
            self.assertNotIn("frozenset", names, path)


def defined(path):
    names = []
    for node in ast.parse(path.read_text()).body:
        if isinstance(node, (ast.FunctionDef, ast.ClassDef)):
            names.append(node.name)
        if isinstance(node, ast.Assign):
            names += [target.id for target in node.targets]
    return names
