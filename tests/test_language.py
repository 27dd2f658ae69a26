"""Guards the rules of ../shared/LANGUAGE.md that can be seen in a file's signs and syntax."""
import ast
import builtins
import pathlib
import re
import unittest

PACKAGE = pathlib.Path(__file__).resolve().parent.parent / "courtscore"
FILES = sorted(PACKAGE.rglob("*.py"))
WORDS = re.compile(
    r"\b(type|typing|typing_extensions|enum|Enum|IntEnum|StrEnum|Flag|IntFlag|Generic|Protocol|ABC|ABCMeta"
    r"|namedtuple|NamedTuple|TypedDict|TYPE_CHECKING|abstractmethod)\b|dataclass|overload|contextmanager")
BUILTINS = set(
    "len range enumerate zip min max sum abs sorted reversed int str bool list tuple dict set isinstance ord repr any"
    " all divmod Exception ValueError TypeError KeyError IndexError LookupError ZeroDivisionError ArithmeticError"
    " OverflowError RuntimeError NotImplementedError AttributeError StopIteration".split())
# Those of L25 that the package has a use for.
OWN_METHODS = set("append join reverse split zfill".split())
METHODS = {"__init__", "__eq__", "__repr__", "__str__", "__len__"}
NODES = set(
    "Module ImportFrom alias FunctionDef ClassDef Lambda arguments arg Assign AugAssign If While For Return Break"
    " Continue Pass Raise Try ExceptHandler Expr Call keyword Name Attribute Subscript Slice Load Store Constant List"
    " Tuple Dict Set BinOp UnaryOp BoolOp Compare IfExp ListComp comprehension JoinedStr FormattedValue Add Sub Mult"
    " FloorDiv Mod Pow BitAnd BitOr BitXor LShift RShift Invert USub UAdd Not And Or Eq NotEq Lt LtE Gt GtE Is IsNot"
    " In NotIn".split())


def nodes(file):
    return list(ast.walk(ast.parse(file.read_text("utf-8"))))


class Language(unittest.TestCase):
    def test_only_plain_files_lie_in_the_package(self):
        self.assertIn(PACKAGE / "__init__.py", FILES)
        for path in PACKAGE.rglob("*"):
            # Byte code is left there by whoever imports the package; it is never committed.
            if "__pycache__" not in path.parts and path.is_file():
                self.assertRegex(path.name, r"^(__init__|__main__|[a-z][a-z0-9_]*)\.py$")

    def test_signs_sizes_and_words(self):
        for file in FILES:
            text = file.read_bytes().decode("utf-8")
            with self.subTest(file.name):
                self.assertRegex(text, r"\A[ -~\n]*\Z")
                self.assertIsNone(WORDS.search(text))
                self.assertLessEqual(len(text.splitlines()), 400)
                self.assertLessEqual(max(len(line) for line in text.splitlines()), 120)

    def test_only_the_small_part_of_the_syntax(self):
        for file in FILES:
            for node in nodes(file):
                with self.subTest(file=file.name, line=getattr(node, "lineno", 0)):
                    self.assertIn(node.__class__.__name__, NODES)
                    if isinstance(node, ast.FunctionDef):
                        self.assertLessEqual(node.end_lineno - node.lineno + 1, 40)
                        self.assertEqual(node.decorator_list, [])
                    if isinstance(node, ast.Constant):
                        self.assertNotIsInstance(node.value, (float, bytes, complex))
                    if isinstance(node, ast.Assign):
                        self.assertEqual(len(node.targets), 1)
                        self.assertNotIsInstance(node.targets[0], (ast.Tuple, ast.List))
                    if isinstance(node, ast.ListComp):
                        self.assertEqual(len(node.generators), 1)
                        self.assertLessEqual(len(node.generators[0].ifs), 1)

    def test_what_stands_by_itself_is_a_call_or_a_file_s_docstring(self):
        for file in FILES:
            first = ast.parse(file.read_text("utf-8")).body[0]
            for node in nodes(file):
                if isinstance(node, ast.Expr) and node.lineno != first.lineno:
                    with self.subTest(file=file.name, line=node.lineno):
                        self.assertIsInstance(node.value, ast.Call)

    def test_methods_are_the_package_s_own_or_listed(self):
        own = {node.name for file in FILES for node in nodes(file) if isinstance(node, ast.FunctionDef)}
        for file in FILES:
            for node in nodes(file):
                if isinstance(node, ast.Call) and isinstance(node.func, ast.Attribute):
                    with self.subTest(file=file.name, line=node.lineno):
                        self.assertIn(node.func.attr, own | OWN_METHODS)

    def test_no_local_is_called_like_a_class_or_an_import_of_its_file(self):
        for file in FILES:
            all_nodes = nodes(file)
            taken = {node.name for node in all_nodes if isinstance(node, (ast.alias, ast.ClassDef))}
            for node in all_nodes:
                if isinstance(node, ast.arg):
                    self.assertNotIn(node.arg, taken)
                if isinstance(node, ast.Name) and isinstance(node.ctx, ast.Store):
                    self.assertNotIn(node.id, taken)

    def test_imports_are_the_package_s_own(self):
        for file in FILES:
            for node in nodes(file):
                if isinstance(node, ast.ImportFrom):
                    with self.subTest(file=file.name, line=node.lineno):
                        self.assertEqual(node.level, 0)
                        self.assertTrue((PACKAGE.parent / (node.module.replace(".", "/") + ".py")).is_file())
                        self.assertNotIn("*", [name.name for name in node.names])

    def test_names(self):
        for file in FILES:
            for node in nodes(file):
                name = getattr(node, "id", getattr(node, "attr", getattr(node, "arg", getattr(node, "name", None))))
                if isinstance(name, str):
                    with self.subTest(file=file.name, name=name):
                        self.assertTrue(name in METHODS or re.fullmatch(r"[A-Za-z][A-Za-z0-9_]*", name))
                if isinstance(node, ast.Name) and hasattr(builtins, node.id):
                    self.assertIn(node.id, BUILTINS)
                    self.assertIsInstance(node.ctx, ast.Load)
                if isinstance(node, ast.arg):
                    self.assertFalse(hasattr(builtins, node.arg))


if __name__ == "__main__":
    unittest.main()
