"""The rules of LANGUAGE.md that can be seen without running the program."""

import ast
import builtins
import re
import unittest
from pathlib import Path

PACKAGE = Path(__file__).resolve().parent.parent / "rowsorder"

NODES = """
Module ImportFrom alias FunctionDef arguments arg ClassDef Return Assign AugAssign For While If Raise Try
ExceptHandler Expr Pass Break Continue BoolOp BinOp UnaryOp Lambda IfExp Dict Set ListComp comprehension Compare Call
keyword FormattedValue JoinedStr Constant Attribute Subscript Slice Name List Tuple Load Store And Or Add Sub Mult
FloorDiv Mod Pow LShift RShift BitOr BitXor BitAnd Invert Not USub UAdd Eq NotEq Lt LtE Gt GtE Is IsNot In NotIn
""".split()

OWN_NAMES = """
len range enumerate zip min max sum abs sorted reversed int str bool list tuple dict set frozenset isinstance ord repr
any all divmod Exception ValueError TypeError KeyError IndexError LookupError ZeroDivisionError ArithmeticError
OverflowError RuntimeError NotImplementedError AttributeError StopIteration
""".split()

METHODS = """
append clear copy count endswith extend find get index insert isalnum isalpha isdigit islower isspace isupper items
join keys ljust lower lstrip partition pop remove replace reverse rfind rjust rpartition rsplit rstrip setdefault split
splitlines startswith strip update upper values zfill bit_length
""".split()

KEYWORDS = {
    "sorted": ("key", "reverse"), "min": ("key", "default"), "max": ("key", "default"), "sum": ("start",),
    "enumerate": ("start",), "zip": ("strict",),
}

UNDERSCORED = ("__init__", "__eq__", "__repr__", "__str__", "__len__")

BARRED_WORDS = re.compile(
    r"\b(type|typing|typing_extensions|enum|Enum|IntEnum|StrEnum|Flag|IntFlag|Generic|Protocol|ABC|ABCMeta|namedtuple"
    r"|NamedTuple|TypedDict|TYPE_CHECKING|abstractmethod)\b|dataclass|overload|contextmanager"
)


def files():
    return sorted(PACKAGE.glob("*.py"))


def trees():
    return [(path.name, ast.parse(path.read_text())) for path in files()]


def top_names(tree):
    names = []
    for node in tree.body:
        if isinstance(node, (ast.FunctionDef, ast.ClassDef)):
            names.append(node.name)
        if isinstance(node, ast.Assign):
            names += [target.id for target in node.targets]
    return names


def bound_names(tree):
    names = [node.arg for node in ast.walk(tree) if isinstance(node, ast.arg)]
    for node in ast.walk(tree):
        if isinstance(node, ast.Name) and isinstance(node.ctx, ast.Store):
            names.append(node.id)
    return names


def drawn_from(tree):
    return {node.module.split(".")[1] + ".py" for node in tree.body if isinstance(node, ast.ImportFrom)}


class Files(unittest.TestCase):
    def test_only_plain_files(self):
        for path in PACKAGE.iterdir():
            if path.name != "__pycache__":
                self.assertRegex(path.name, r"^([a-z][a-z0-9_]*|__init__)\.py$")
        self.assertTrue((PACKAGE / "__init__.py").exists())

    def test_signs_and_sizes(self):
        for path in files():
            text = path.read_text()
            self.assertRegex(text, r"^[ -~\n]*$")
            lines = text.split("\n")
            self.assertLessEqual(len(lines), 401, path.name)
            self.assertLessEqual(max(len(line) for line in lines), 120, path.name)
            self.assertIsNone(BARRED_WORDS.search(text), path.name)

    def test_functions_are_small(self):
        for name, tree in trees():
            for node in ast.walk(tree):
                if isinstance(node, ast.FunctionDef):
                    self.assertLessEqual(node.end_lineno - node.lineno + 1, 40, (name, node.name))


class Imports(unittest.TestCase):
    def test_from_the_file_that_defines_the_name(self):
        tops = {name: top_names(tree) for name, tree in trees()}
        for name, tree in trees():
            for node in ast.walk(tree):
                if isinstance(node, ast.ImportFrom):
                    self.assertIn(node, tree.body)
                    self.assertEqual(node.level, 0)
                    self.assertRegex(node.module, r"^rowsorder\.[a-z_]+$")
                    for drawn in node.names:
                        self.assertIn(drawn.name, tops[node.module.split(".")[1] + ".py"], name)

    def test_no_two_files_draw_from_one_another(self):
        left = {name: drawn_from(tree) for name, tree in trees()}
        self.assertEqual(left["__init__.py"], set())
        while left:
            free = [name for name in left if not left[name] & set(left)]
            self.assertNotEqual(free, [], left)
            for name in free:
                left.pop(name)


class Forms(unittest.TestCase):
    def test_only_known_forms(self):
        for name, tree in trees():
            for node in ast.walk(tree):
                self.assertIn(node.__class__.__name__, NODES, (name, getattr(node, "lineno", 0)))

    def test_statements(self):
        for name, tree in trees():
            for node in ast.walk(tree):
                if isinstance(node, ast.Assign):
                    self.assertEqual(len(node.targets), 1, name)
                if isinstance(node, (ast.For, ast.While)):
                    self.assertEqual(node.orelse, [], name)
                if isinstance(node, ast.Try):
                    self.assertEqual(node.finalbody, [], name)
                if isinstance(node, (ast.FunctionDef, ast.ClassDef)):
                    self.assertEqual(node.decorator_list, [], name)
                if isinstance(node, ast.ListComp):
                    self.assertEqual(len(node.generators), 1, name)
                    self.assertLessEqual(len(node.generators[0].ifs), 1, name)
                if isinstance(node, ast.Expr) and not isinstance(node.value, ast.Call):
                    self.assertEqual((node.value.__class__, node), (ast.Constant, tree.body[0]), name)

    def test_values(self):
        for name, tree in trees():
            for node in ast.walk(tree):
                if isinstance(node, ast.Constant):
                    self.assertIn(node.value.__class__, (int, str, bool, None.__class__), name)
                    self.assertNotIn("%", str(node.value), name)
                if isinstance(node, ast.BinOp) and isinstance(node.op, ast.Pow):
                    self.assertIsInstance(node.right, ast.Constant, name)
                if isinstance(node, ast.Compare) and isinstance(node.ops[0], (ast.Is, ast.IsNot)):
                    self.assertIn(getattr(node.comparators[0], "value", 0), (None, True, False), name)

    def test_keywords(self):
        for name, tree in trees():
            for node in ast.walk(tree):
                if isinstance(node, ast.Call):
                    for keyword in node.keywords:
                        self.assertIn(keyword.arg, KEYWORDS.get(getattr(node.func, "id", ""), ()), name)

    def test_sets_stand_in_len_and_sorted_alone(self):
        for name, tree in trees():
            held = []
            for node in ast.walk(tree):
                if isinstance(node, ast.Call) and getattr(node.func, "id", "") in ("len", "sorted"):
                    held += node.args
            for node in ast.walk(tree):
                self.assertNotIsInstance(node, ast.Set, name)
                if isinstance(node, ast.Call) and getattr(node.func, "id", "") in ("set", "frozenset"):
                    self.assertIn(node, held, name)


class Classes(unittest.TestCase):
    def classes(self):
        return [(name, node) for name, tree in trees() for node in ast.walk(tree) if isinstance(node, ast.ClassDef)]

    def test_stand_at_the_top_with_methods_alone(self):
        tops = [node for name, tree in trees() for node in tree.body]
        for name, node in self.classes():
            self.assertTrue(any(node.lineno == top.lineno and node.name == getattr(top, "name", "") for top in tops))
            self.assertLessEqual(len(node.bases), 1, name)
            self.assertEqual(node.keywords, [], name)
            for part in node.body:
                self.assertIsInstance(part, (ast.FunctionDef, ast.Pass), (name, node.name))

    def test_no_method_is_a_value(self):
        methods = []
        values = []
        for name, node in self.classes():
            own = [part.name for part in node.body if isinstance(part, ast.FunctionDef)]
            self.assertEqual(len(own), len(set(own)), node.name)
            methods += own
            values += [part.attr for part in ast.walk(node)
                       if isinstance(part, ast.Attribute) and isinstance(part.ctx, ast.Store)]
        self.assertEqual(set(methods) & set(values), set())
        for value in values:
            for plain in ("", 0, [], {}, ()):
                self.assertFalse(hasattr(plain, value), value)

    def test_the_top_of_a_file(self):
        for name, tree in trees():
            for node in tree.body[1:]:
                self.assertIsInstance(node, (ast.ImportFrom, ast.FunctionDef, ast.ClassDef, ast.Assign), name)
                if isinstance(node, ast.Assign):
                    self.assertNotIsInstance(node.value, (ast.List, ast.Dict, ast.Call), name)


class Names(unittest.TestCase):
    def test_each_top_name_once(self):
        for name, tree in trees():
            names = top_names(tree)
            self.assertEqual(len(names), len(set(names)), name)

    def test_plain_names_that_hide_nothing(self):
        for name, tree in trees():
            taken = [top.name for top in tree.body if isinstance(top, ast.ClassDef)]
            for node in ast.walk(tree):
                if isinstance(node, ast.ImportFrom):
                    taken += [drawn.name for drawn in node.names]
            for bound in bound_names(tree):
                self.assertRegex(bound, r"^[A-Za-z][A-Za-z0-9_]*$", name)
                self.assertFalse(hasattr(builtins, bound), (name, bound))
                self.assertNotIn(bound, taken, name)

    def test_only_known_names_of_pythons_own(self):
        for name, tree in trees():
            for node in ast.walk(tree):
                if isinstance(node, ast.Name) and hasattr(builtins, node.id):
                    self.assertIn(node.id, OWN_NAMES, name)

    def test_only_known_methods(self):
        own = set(UNDERSCORED)
        for name, tree in trees():
            for node in ast.walk(tree):
                if isinstance(node, ast.Attribute) and isinstance(node.ctx, ast.Store):
                    own.add(node.attr)
                if isinstance(node, ast.ClassDef):
                    own |= {part.name for part in node.body if isinstance(part, ast.FunctionDef)}
        for name, tree in trees():
            for node in ast.walk(tree):
                if isinstance(node, ast.Attribute):
                    self.assertTrue(node.attr in METHODS or node.attr in own, (name, node.attr))

    def test_no_annotations(self):
        for name, tree in trees():
            for node in ast.walk(tree):
                self.assertIsNone(getattr(node, "annotation", None), name)
                self.assertIsNone(getattr(node, "returns", None), name)


if __name__ == "__main__":
    unittest.main()
