"""The form of the package's own files: the rules of the language that a walk over the code can see."""

import ast
import os
import re
import unittest

TOP = os.path.dirname(os.path.dirname(os.path.abspath(__file__)))
FOLDER = os.path.join(TOP, "twinrooms")

BUILT_IN = set(
    "len range enumerate zip min max sum abs sorted reversed int str bool list tuple dict set frozenset isinstance"
    " ord repr any all divmod Exception ValueError TypeError KeyError IndexError LookupError ZeroDivisionError"
    " ArithmeticError OverflowError RuntimeError NotImplementedError StopIteration".split()
)
PYTHONS_OWN = set(dir(__builtins__) if not isinstance(__builtins__, dict) else __builtins__)
METHODS = set(
    "append clear copy count endswith extend find get index insert isalnum isalpha isdigit islower isspace isupper"
    " items join keys ljust lower lstrip partition pop remove replace reverse rfind rjust rpartition rsplit rstrip"
    " setdefault split splitlines startswith strip update upper values zfill bit_length".split()
)
NODES = set(
    "Module FunctionDef Lambda ClassDef arguments arg Assign AugAssign If While For Return Break Continue Pass Raise"
    " Try ExceptHandler Expr Call Name Attribute Subscript Slice Constant List Tuple Dict Set ListComp comprehension"
    " JoinedStr FormattedValue BinOp UnaryOp BoolOp Compare IfExp Import ImportFrom alias keyword Load Store"
    " Add Sub Mult FloorDiv Mod Pow BitAnd BitOr BitXor LShift RShift Invert USub UAdd Not And Or"
    " Eq NotEq Lt LtE Gt GtE Is IsNot In NotIn".split()
)
WORDS = (
    r"\b(type|typing|typing_extensions|enum|Enum|IntEnum|StrEnum|Flag|IntFlag|Generic|Protocol|ABC|ABCMeta"
    r"|namedtuple|NamedTuple|TypedDict|TYPE_CHECKING|abstractmethod)\b|dataclass|overload|contextmanager"
)


def package_files():
    return sorted(name for name in os.listdir(FOLDER) if name != "__pycache__")


def text_of(name):
    with open(os.path.join(FOLDER, name), encoding="utf-8", newline="") as file:
        return file.read()


class LanguageTest(unittest.TestCase):

    def each_tree(self):
        return [(name, ast.parse(text_of(name))) for name in package_files()]

    def test_files(self):
        self.assertIn("__init__.py", package_files())
        for name in package_files():
            self.assertRegex(name, r"^(__init__|__main__|[a-z][a-z0-9_]*)\.py$")

    def test_signs_sizes_and_words(self):
        for name in package_files():
            text = text_of(name)
            self.assertRegex(text, r"\A[ -~\n]*\Z", name)
            self.assertIsNone(re.search(WORDS, text), name)
            lines = text.splitlines()
            self.assertLessEqual(len(lines), 400, name)
            self.assertLessEqual(max(len(line) for line in lines), 120, name)

    def test_statements_and_expressions(self):
        for name, tree in self.each_tree():
            for node in ast.walk(tree):
                self.assertIn(type(node).__name__, NODES, (name, getattr(node, "lineno", 0)))
                if isinstance(node, ast.FunctionDef):
                    self.assertLessEqual(node.end_lineno - node.lineno + 1, 40, node.name)
                    self.assertEqual(node.decorator_list, [])
                if isinstance(node, (ast.For, ast.While)):
                    self.assertEqual(node.orelse, [])
                if isinstance(node, ast.Assign):
                    self.assertEqual(len(node.targets), 1)
                if isinstance(node, ast.ListComp):
                    self.assertEqual(len(node.generators), 1)
                    self.assertLessEqual(len(node.generators[0].ifs), 1)
                if isinstance(node, ast.FormattedValue):
                    self.assertIsInstance(node.value, ast.Name)
                if isinstance(node, ast.Constant) and isinstance(node.value, str):
                    self.assertNotIn("%", node.value)

    def test_imports_come_from_the_very_file(self):
        for name, tree in self.each_tree():
            for node in ast.walk(tree):
                self.assertNotIsInstance(node, ast.Import, name)
                if isinstance(node, ast.ImportFrom):
                    self.assertEqual(node.level, 0)
                    self.assertRegex(node.module, r"^twinrooms\.[a-z]+$")
                    source = ast.parse(text_of(node.module.partition(".")[2] + ".py"))
                    bound = {item.name for item in source.body if isinstance(item, (ast.FunctionDef, ast.ClassDef))}
                    self.assertLessEqual({item.name for item in node.names}, bound)

    def test_no_two_files_draw_from_one_another(self):
        drawn = {}
        for name, tree in self.each_tree():
            sources = [node.module for node in ast.walk(tree) if isinstance(node, ast.ImportFrom)]
            drawn[name] = {source.partition(".")[2] + ".py" for source in sources}
        while drawn:
            free = [name for name in drawn if not drawn[name] & set(drawn)]
            self.assertTrue(free, drawn)
            for name in free:
                drawn.pop(name)

    def test_is_stands_beside_none_true_and_false_alone(self):
        for name, tree in self.each_tree():
            for node in ast.walk(tree):
                if isinstance(node, ast.Compare) and isinstance(node.ops[0], (ast.Is, ast.IsNot)):
                    self.assertIsInstance(node.comparators[0], ast.Constant, (name, node.lineno))
                    self.assertIn(node.comparators[0].value, (None, True, False))

    def test_sets_are_not_kept(self):
        for name, tree in self.each_tree():
            taken = set()
            for node in ast.walk(tree):
                if isinstance(node, ast.Call) and isinstance(node.func, ast.Name) and node.func.id in ("sorted", "len"):
                    taken |= {id(one) for part in node.args for one in ast.walk(part)}
                if isinstance(node, ast.Compare):
                    taken |= {id(one) for part in [node.left] + node.comparators for one in ast.walk(part)}
            for node in ast.walk(tree):
                if isinstance(node, ast.Call) and isinstance(node.func, ast.Name) and node.func.id == "set":
                    self.assertIn(id(node), taken, (name, node.lineno))

    def test_errors_that_are_taken_are_the_programs_own(self):
        own = {node.name for node in ast.parse(text_of("errors.py")).body if isinstance(node, ast.ClassDef)}
        for name, tree in self.each_tree():
            for node in ast.walk(tree):
                if isinstance(node, ast.ExceptHandler):
                    self.assertIn(ast.unparse(node.type), own, (name, node.lineno))

    def test_names(self):
        for name, tree in self.each_tree():
            names = [node for node in ast.walk(tree) if isinstance(node, ast.Name)]
            bound = {node.id for node in names if isinstance(node.ctx, ast.Store)}
            bound |= {node.arg for node in ast.walk(tree) if isinstance(node, ast.arg)}
            own = {node.name for node in tree.body if isinstance(node, (ast.FunctionDef, ast.ClassDef))}
            own |= {item.name for node in ast.walk(tree) if isinstance(node, ast.ImportFrom) for item in node.names}
            self.assertEqual(bound & PYTHONS_OWN, set(), name)
            self.assertEqual(bound & own, set(), name)
            for one in bound | own:
                self.assertRegex(one, r"^[A-Za-z][A-Za-z0-9_]*$")
            self.assertEqual({node.id for node in names} - bound - own - BUILT_IN, set(), name)

    def test_methods_are_listed_ones_or_own(self):
        own = set()
        kept = set()
        for _, tree in self.each_tree():
            for node in ast.walk(tree):
                if isinstance(node, ast.ClassDef):
                    own |= {item.name for item in node.body if isinstance(item, ast.FunctionDef)}
                if isinstance(node, ast.Attribute) and isinstance(node.ctx, ast.Store):
                    kept.add(node.attr)
        self.assertEqual(own & kept, set())
        for name, tree in self.each_tree():
            for node in ast.walk(tree):
                if isinstance(node, ast.Call) and isinstance(node.func, ast.Attribute):
                    self.assertIn(node.func.attr, METHODS | own, (name, node.lineno))


if __name__ == "__main__":
    unittest.main()
