"""Those rules of LANGUAGE.md that a look at the code can tell, over all files of the package."""

import ast
import builtins
import pathlib
import re
import unittest

ROOT = pathlib.Path(__file__).resolve().parent.parent
FOLDER = ROOT / "lesserhall"
FILES = sorted(FOLDER.glob("*.py"))

BUILTINS = set("""len range enumerate zip min max sum abs sorted reversed int str bool list tuple dict set isinstance
    ord repr any all divmod iter next ValueError TypeError KeyError IndexError LookupError RuntimeError OverflowError
    True False None""".split())
BARRED_WORDS = re.compile(r"\b(type|typing|enum|Enum|Flag|Generic|Protocol|ABC|namedtuple|NamedTuple|abstractmethod)\b"
                          r"|dataclass|overload|contextmanager")
DOUBLE = {"__init__", "__eq__", "__repr__", "__str__", "__len__"}
EAGER = {"any", "all", "min", "max", "sum", "sorted"}


def walked():
    for path in FILES:
        for node in ast.walk(ast.parse(path.read_text("ascii"))):
            yield path.name, node


class LanguageTest(unittest.TestCase):
    def test_files(self):
        names = [path.name for path in FOLDER.iterdir() if path.name != "__pycache__"]
        self.assertEqual(sorted(names), [path.name for path in FILES])
        for name in names:
            self.assertRegex(name, r"\A[a-z_0-9]+\.py\Z")

    def test_lines_and_characters(self):
        for path in FILES:
            text = path.read_bytes().decode("ascii")
            self.assertTrue(text.endswith("\n"), path.name)
            self.assertIsNone(re.search(r"[^ -~\n]", text), path.name)
            self.assertLess(len(text.splitlines()), 400, path.name)
            self.assertLessEqual(max(map(len, text.splitlines())), 120, path.name)
            self.assertIsNone(BARRED_WORDS.search(text), path.name)

    def test_functions_are_short_and_plain(self):
        for name, node in walked():
            if isinstance(node, ast.FunctionDef):
                self.assertLessEqual(node.end_lineno - node.lineno + 1, 40, (name, node.name))
                self.assertTrue(node.name in DOUBLE or not node.name.startswith("_"), (name, node.name))
                self.assertEqual(node.decorator_list, [], (name, node.name))

    def test_imports(self):
        for name, node in walked():
            self.assertNotIsInstance(node, ast.Import, name)
            if isinstance(node, ast.ImportFrom):
                self.assertRegex(node.module, r"\Alesserhall\.[a-z]+\Z", name)
                source = ast.parse((FOLDER / (node.module.split(".")[1] + ".py")).read_text("ascii"))
                defined = {part.name for part in source.body if isinstance(part, (ast.FunctionDef, ast.ClassDef))}
                for part in source.body:
                    if isinstance(part, ast.Assign):
                        defined.add(part.targets[0].id)
                for alias in node.names:
                    self.assertIn(alias.name, defined, name)

    def test_names(self):
        for path in FILES:
            tree = ast.parse(path.read_text("ascii"))
            bound = set(BUILTINS)
            for node in ast.walk(tree):
                if isinstance(node, (ast.FunctionDef, ast.ClassDef, ast.alias)):
                    bound.add(node.name)
                elif isinstance(node, ast.arg):
                    bound.add(node.arg)
                elif isinstance(node, ast.Name) and isinstance(node.ctx, ast.Store):
                    self.assertNotIn(node.id, dir(builtins), path.name)
                    bound.add(node.id)
            for node in ast.walk(tree):
                if isinstance(node, ast.Name):
                    self.assertIn(node.id, bound, path.name)
                    self.assertFalse(node.id.startswith("_"), path.name)

    def test_no_floats_no_generators_where_lists_are_due(self):
        for name, node in walked():
            self.assertNotIsInstance(node, (ast.Div, ast.Global, ast.AsyncFunctionDef), name)
            if isinstance(node, ast.Constant):
                self.assertNotIsInstance(node.value, float, name)
                if isinstance(node.value, str):
                    self.assertNotIn("%", node.value, name)
            if isinstance(node, ast.Call) and isinstance(node.func, ast.Name) and node.func.id in EAGER:
                for part in node.args:
                    self.assertNotIsInstance(part, ast.GeneratorExp, (name, node.lineno))

    def test_no_name_is_a_method_and_an_attribute(self):
        methods, attributes = set(), set()
        for _, node in walked():
            if isinstance(node, ast.ClassDef):
                methods |= {part.name for part in node.body if isinstance(part, ast.FunctionDef)}
            if isinstance(node, ast.Attribute) and isinstance(node.ctx, ast.Store):
                attributes.add(node.attr)
        self.assertEqual(methods & attributes, set())


if __name__ == "__main__":
    unittest.main()
