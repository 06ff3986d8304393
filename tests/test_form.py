"""The package keeps to its small part of Python: the rules that can be seen in one file at a time."""

import ast
import builtins
import pathlib
import re
import unittest

PACKAGE = pathlib.Path(__file__).resolve().parent.parent / "weighvote"

OWN_NAMES = set("""len range enumerate zip min max sum abs sorted reversed int str bool list tuple dict set frozenset
isinstance ord repr any all divmod Exception ValueError KeyError IndexError LookupError ZeroDivisionError
ArithmeticError OverflowError RuntimeError NotImplementedError StopIteration""".split())

OWN_METHODS = set("""append clear copy count endswith extend find get index insert isalnum isalpha isdigit islower
isspace isupper items join keys ljust lower lstrip partition pop remove replace reverse rfind rjust rpartition rsplit
rstrip setdefault split splitlines startswith strip update upper values zfill bit_length""".split())

NODES = set("""Module FunctionDef ClassDef arguments arg Return Assign AugAssign For While If Raise Try ExceptHandler
ImportFrom alias Expr Pass Break Continue BoolOp And Or BinOp Add Sub Mult FloorDiv Mod Pow LShift RShift BitOr BitXor
BitAnd UnaryOp Invert Not USub UAdd Lambda IfExp Dict Set ListComp comprehension Compare Eq NotEq Lt LtE Gt GtE Is IsNot
In NotIn Call keyword JoinedStr FormattedValue Constant Attribute Subscript Slice Name List Tuple Load Store""".split())

METHODS_WITH_UNDERSCORES = {"__init__", "__eq__", "__repr__", "__str__", "__len__"}

WORDS_NOWHERE = re.compile(r"\b(type|typing|typing_extensions|enum|Enum|IntEnum|StrEnum|Flag|IntFlag|Generic|Protocol|"
                           r"ABC|ABCMeta|namedtuple|NamedTuple|TypedDict|TYPE_CHECKING|abstractmethod)\b"
                           r"|dataclass|overload|contextmanager")

PLAIN_NAME = re.compile(r"[A-Za-z][A-Za-z0-9_]*")


def sources():
    return {path.stem: path.read_text(encoding="utf-8") for path in sorted(PACKAGE.glob("*.py"))}


def nodes():
    return [(stem, node) for stem, text in sources().items() for node in ast.walk(ast.parse(text))]


def drawn_from(text):
    return [node.module for node in ast.walk(ast.parse(text)) if isinstance(node, ast.ImportFrom)]


class Form(unittest.TestCase):
    def test_nothing_but_files_of_python_lies_in_the_package(self):
        for path in PACKAGE.iterdir():
            if path.name != "__pycache__":
                self.assertTrue(path.is_file() and re.fullmatch(r"__init__\.py|[a-z][a-z0-9_]*\.py", path.name), path)

    def test_signs_and_sizes(self):
        for stem, text in sources().items():
            self.assertRegex(text, r"\A[\n -~]*\Z", stem)
            self.assertIsNone(WORDS_NOWHERE.search(text), stem)
            self.assertLessEqual(len(text.splitlines()), 400, stem)
            self.assertLessEqual(max(map(len, text.splitlines())), 120, stem)

    def test_only_the_listed_forms_stand_there(self):
        for stem, node in nodes():
            self.assertIn(node.__class__.__name__, NODES, (stem, getattr(node, "lineno", 0)))

    def test_statements_and_values(self):
        for stem, node in nodes():
            where = (stem, getattr(node, "lineno", 0))
            if isinstance(node, ast.Assign):
                self.assertEqual(len(node.targets), 1, where)
            if isinstance(node, (ast.For, ast.While)):
                self.assertEqual(node.orelse, [], where)
            if isinstance(node, ast.Try):
                self.assertEqual(node.finalbody, [], where)
            if isinstance(node, ast.Constant):
                self.assertIsInstance(node.value, (int, str, bool, type(None)), where)
            if isinstance(node, ast.ListComp):
                self.assertEqual(len(node.generators), 1, where)
                self.assertLessEqual(len(node.generators[0].ifs), 1, where)
            if isinstance(node, ast.Compare) and any(isinstance(op, (ast.Is, ast.IsNot)) for op in node.ops):
                self.assertIsInstance(node.comparators[0], ast.Constant, where)

    def test_functions_and_classes(self):
        for stem, node in nodes():
            where = (stem, getattr(node, "lineno", 0))
            if isinstance(node, (ast.FunctionDef, ast.ClassDef)):
                self.assertEqual(node.decorator_list, [], where)
            if isinstance(node, ast.FunctionDef):
                self.assertLessEqual(node.end_lineno - node.lineno + 1, 40, where)
                self.assertEqual((node.args.vararg, node.args.kwarg, node.args.kwonlyargs), (None, None, []), where)
            if isinstance(node, ast.ClassDef):
                self.assertLessEqual(len(node.bases), 1, where)
                self.assertTrue(all(isinstance(part, (ast.FunctionDef, ast.Pass)) for part in node.body), where)

    def test_plain_names_and_none_of_python_s_own(self):
        for stem, node in nodes():
            where = (stem, getattr(node, "lineno", 0))
            if isinstance(node, ast.Name):
                self.assertRegex(node.id, PLAIN_NAME, where)
                if hasattr(builtins, node.id):
                    self.assertIn(node.id, OWN_NAMES, where)
                    self.assertIsInstance(node.ctx, ast.Load, where)
            if isinstance(node, ast.arg):
                self.assertFalse(hasattr(builtins, node.arg), where)
            if isinstance(node, ast.FunctionDef) and node.name not in METHODS_WITH_UNDERSCORES:
                self.assertTrue(PLAIN_NAME.fullmatch(node.name) and not hasattr(builtins, node.name), where)

    def test_attributes_are_own_ones_or_listed_methods(self):
        own = {node.name for stem, node in nodes() if isinstance(node, ast.FunctionDef)}
        values = {node.attr for stem, node in nodes() if isinstance(node, ast.Attribute)
                  and isinstance(node.ctx, ast.Store)}
        self.assertEqual(values & own, set())
        for stem, node in nodes():
            if isinstance(node, ast.Attribute):
                self.assertIn(node.attr, own | values | OWN_METHODS, (stem, node.lineno))

    def test_imports_are_the_package_s_own_and_go_one_way(self):
        texts = sources()
        self.assertEqual(drawn_from(texts["__init__"]), [])
        left = {stem: set(drawn_from(text)) for stem, text in texts.items()}
        for stem, modules in left.items():
            for module in modules:
                self.assertIn(module, {"weighvote." + name for name in texts}, stem)
        while left:
            free = [stem for stem in left if not any("weighvote." + other in left[stem] for other in left)]
            self.assertTrue(free, left)
            left = {stem: modules for stem, modules in left.items() if stem not in free}


if __name__ == "__main__":
    unittest.main()
