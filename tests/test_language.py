"""Those rules of the Python subset that can be read off the files one by one."""

import ast
import pathlib
import re
import unittest

PACKAGE = pathlib.Path(__file__).resolve().parent.parent / "pedalrounds"
FILES = sorted(path for path in PACKAGE.rglob("*") if path.is_file() and "__pycache__" not in path.parts)
BARRED = re.compile(
    r"\b(type|typing|typing_extensions|enum|Enum|IntEnum|StrEnum|Flag|IntFlag|Generic|Protocol|ABC|ABCMeta"
    r"|namedtuple|NamedTuple|TypedDict|TYPE_CHECKING|abstractmethod)\b|dataclass|overload|contextmanager"
)
BUILTINS = (
    "len range enumerate zip min max sum abs sorted reversed int str bool list tuple dict set isinstance ord repr"
    " any all divmod ValueError LookupError OverflowError"
).split()
ON_THE_SPOT = ("zip", "enumerate", "reversed", "range", "items", "keys", "values")
AT_THE_TOP = (ast.ImportFrom, ast.FunctionDef, ast.ClassDef, ast.Assign)
BARRED_NODES = (ast.Import, ast.Global, ast.AsyncFunctionDef, ast.Div)


def trees():
    return [(path, ast.parse(path.read_text("ascii"))) for path in FILES]


def is_docstring(node):
    return isinstance(node, ast.Expr) and isinstance(node.value, ast.Constant) and isinstance(node.value.value, str)


def names_bound(node):
    if isinstance(node, (ast.FunctionDef, ast.ClassDef)):
        return [node.name]
    if isinstance(node, ast.arg):
        return [node.arg]
    if isinstance(node, ast.Assign):
        return [name for target in node.targets for name in names_bound(target)]
    if isinstance(node, ast.Name) and isinstance(node.ctx, ast.Store):
        return [node.id]
    if isinstance(node, ast.Attribute):
        return [node.attr]
    return []


class Files(unittest.TestCase):
    def test_there_are_files_of_python_alone(self):
        self.assertIn(PACKAGE / "__init__.py", FILES)
        for path in FILES:
            self.assertEqual(path.suffix, ".py")
            self.assertRegex(path.name, r"\A[a-z0-9_]+\.py\Z")

    def test_lines_and_signs(self):
        for path in FILES:
            text = path.read_text("utf-8")
            self.assertRegex(text, r"\A[ -~\n]*\Z", path)
            self.assertLessEqual(len(text.splitlines()), 399, path)
            self.assertLessEqual(max(len(line) for line in text.splitlines()), 120, path)
            self.assertNotRegex(text, BARRED, path)

    def test_functions_have_at_most_40_lines(self):
        for path, tree in trees():
            for node in ast.walk(tree):
                if isinstance(node, ast.FunctionDef):
                    self.assertLessEqual(node.end_lineno - node.lineno + 1, 40, (path, node.name))


class Rows(unittest.TestCase):
    def test_the_top_of_a_file(self):
        for path, tree in trees():
            behind = False
            for node in tree.body:
                self.assertTrue(is_docstring(node) or isinstance(node, AT_THE_TOP), (path, node.lineno))
                self.assertFalse(behind and isinstance(node, ast.ImportFrom), (path, node.lineno))
                behind = behind or not (is_docstring(node) or isinstance(node, ast.ImportFrom))

    def test_imports_name_the_file_that_defines(self):
        for path, tree in trees():
            for node in ast.walk(tree):
                if isinstance(node, ast.ImportFrom):
                    place = (path, node.lineno)
                    self.assertRegex(node.module, r"\Apedalrounds\.[a-z]+\Z", place)
                    self.assertEqual(node.level, 0, place)
                    source = ast.parse((PACKAGE / (node.module.split(".")[1] + ".py")).read_text("ascii"))
                    defined = [name for part in source.body for name in names_bound(part)]
                    for one in node.names:
                        self.assertIn(one.name, defined, place)

    def test_no_barred_rows(self):
        for path, tree in trees():
            for node in ast.walk(tree):
                self.assertNotIsInstance(node, BARRED_NODES, (path, getattr(node, "lineno", 0)))
                if isinstance(node, ast.Constant):
                    self.assertNotIsInstance(node.value, (float, complex), path)
                    self.assertFalse(isinstance(node.value, str) and "%" in node.value, (path, node.lineno))
                if isinstance(node, ast.Compare) and any(isinstance(op, (ast.Is, ast.IsNot)) for op in node.ops):
                    for side in node.comparators:
                        self.assertTrue(isinstance(side, ast.Constant) and side.value in (None, True, False), path)

    def test_names(self):
        for path, tree in trees():
            for node in ast.walk(tree):
                for name in names_bound(node):
                    self.assertNotIn(name, BUILTINS, path)
                    self.assertRegex(name, r"\A([A-Za-z][A-Za-z0-9_]*|__[a-z]+__)\Z", path)


class Classes(unittest.TestCase):
    """What holds in the whole package because of its classes, one of which compares."""

    def test_no_name_is_a_method_here_and_an_attribute_there(self):
        methods, properties, attributes = set(), set(), set()
        for path, tree in trees():
            for node in ast.walk(tree):
                if isinstance(node, ast.ClassDef):
                    for part in node.body:
                        if isinstance(part, ast.FunctionDef):
                            (properties if part.decorator_list else methods).add(part.name)
                if isinstance(node, ast.Attribute) and isinstance(node.ctx, ast.Store):
                    attributes.add(node.attr)
        self.assertEqual(methods & properties, set())
        self.assertEqual(attributes & (methods | properties), set())
        own = {name for name in methods | properties | attributes if not name.startswith("__")}
        self.assertEqual(own & set(dir(str) + dir(list) + dir(dict) + dir(int)), {"copy"})

    def test_lists_in_the_place_of_generators(self):
        for path, tree in trees():
            for node in ast.walk(tree):
                self.assertNotIsInstance(node, (ast.GeneratorExp, ast.Yield, ast.YieldFrom), path)
                if isinstance(node, ast.Attribute):
                    self.assertNotEqual(node.attr, "sort", path)

    def test_rows_that_are_iterated_on_the_spot(self):
        for path, tree in trees():
            for node in ast.walk(tree):
                if isinstance(node, (ast.Assign, ast.Return)) and isinstance(node.value, ast.Call):
                    name = node.value.func
                    self.assertFalse(isinstance(name, ast.Name) and name.id in ON_THE_SPOT, (path, node.lineno))
                    self.assertFalse(isinstance(name, ast.Attribute) and name.attr in ON_THE_SPOT, (path, node.lineno))

    def test_properties_have_no_setters(self):
        for path, tree in trees():
            for node in ast.walk(tree):
                if isinstance(node, ast.FunctionDef):
                    for one in node.decorator_list:
                        self.assertEqual(ast.unparse(one), "property", path)


if __name__ == "__main__":
    unittest.main()
