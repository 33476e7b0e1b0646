"""The package keeps to the part of Python that it is written in: the rules that a short look can tell."""

import ast
import builtins
import pathlib
import re
import unittest

FOLDER = pathlib.Path(__file__).resolve().parent.parent / "noshortring"
FILES = sorted(FOLDER.glob("*.py"))
NODES = """Module Expr ImportFrom alias FunctionDef ClassDef arguments arg Return Assign AugAssign If While For Break
Continue Pass Raise Try ExceptHandler Call Attribute Subscript Slice Name Constant List Tuple Dict ListComp
comprehension IfExp Lambda BinOp UnaryOp BoolOp Compare JoinedStr FormattedValue Load Store Add Sub Mult FloorDiv Mod
Pow BitAnd BitOr BitXor LShift RShift Invert Not USub And Or Eq NotEq Lt LtE Gt GtE Is IsNot In NotIn keyword""".split()
OWN_NAMES = """len range enumerate zip min max sum abs sorted reversed int str bool list tuple dict set frozenset isinstance
ord repr any all divmod ValueError KeyError""".split()
METHODS = """append clear copy count endswith extend find get index insert isalnum isalpha isdigit items join keys lower
partition pop remove replace reverse setdefault split splitlines startswith strip update upper values zfill
bit_length __init__""".split()
WORDS = re.compile(r"\b(type|typing|typing_extensions|[eE]num|IntEnum|StrEnum|Flag|IntFlag|Generic|Protocol|ABC|ABCMeta"
                   r"|namedtuple|NamedTuple|TypedDict|TYPE_CHECKING|abstractmethod)\b|dataclass|overload|contextmanager")


def trees():
    return [(path, ast.parse(path.read_text())) for path in FILES]


def bound_names(tree):
    """The names that a file binds anywhere."""
    names = set()
    for node in ast.walk(tree):
        if isinstance(node, (ast.FunctionDef, ast.ClassDef)):
            names.add(node.name)
        elif isinstance(node, ast.arg):
            names.add(node.arg)
        elif isinstance(node, ast.Name) and isinstance(node.ctx, ast.Store):
            names.add(node.id)
        elif isinstance(node, ast.alias):
            names.add(node.asname or node.name)
    return names


class Language(unittest.TestCase):
    def test_nothing_else_lies_in_the_package(self):
        others = [path.name for path in FOLDER.iterdir() if path.suffix != ".py" and path.name != "__pycache__"]
        self.assertEqual(others, [])
        self.assertIn("__init__.py", [path.name for path in FILES])

    def test_signs_and_sizes(self):
        for path in FILES:
            text = path.read_text()
            self.assertTrue(all(" " <= sign <= "~" or sign == "\n" for sign in text), path)
            self.assertIsNone(WORDS.search(text), path)
            rows = text.split("\n")
            self.assertLessEqual(len(rows), 400, path)
            self.assertLessEqual(max(map(len, rows)), 120, path)

    def test_functions_are_short_and_plain(self):
        for path, tree in trees():
            for node in ast.walk(tree):
                if isinstance(node, ast.FunctionDef):
                    self.assertLessEqual(node.end_lineno - node.lineno + 1, 40, (path, node.name))
                    self.assertEqual(node.decorator_list, [])
                    self.assertIsNone(node.args.vararg or node.args.kwarg)

    def test_forms_of_the_language(self):
        for path, tree in trees():
            for node in ast.walk(tree):
                self.assertIn(node.__class__.__name__, NODES, (path, getattr(node, "lineno", 0)))
                if isinstance(node, ast.Assign):
                    self.assertEqual(len(node.targets), 1, (path, node.lineno))
                if isinstance(node, ast.ListComp):
                    self.assertEqual(len(node.generators), 1, (path, node.lineno))
                    self.assertLessEqual(len(node.generators[0].ifs), 1, (path, node.lineno))
                if isinstance(node, ast.Constant):
                    self.assertNotIsInstance(node.value, (float, bytes), (path, node.lineno))
                if isinstance(node, (ast.For, ast.While)):
                    self.assertEqual(node.orelse, [], (path, node.lineno))

    def test_names(self):
        for path, tree in trees():
            bound = bound_names(tree)
            self.assertEqual([name for name in bound if name in OWN_NAMES], [], path)
            for node in ast.walk(tree):
                if isinstance(node, ast.Name):
                    self.assertIn(node.id, bound | set(OWN_NAMES), (path, node.lineno))
                    self.assertFalse(node.id.startswith("_"), (path, node.lineno))
                if isinstance(node, ast.Call) and isinstance(node.func, ast.Attribute):
                    self.assertIn(node.func.attr, METHODS, (path, node.lineno))

    def test_locals_are_not_called_like_imports(self):
        for path, tree in trees():
            drawn = {name.name for node in ast.walk(tree) if isinstance(node, ast.ImportFrom) for name in node.names}
            others = [node.arg for node in ast.walk(tree) if isinstance(node, ast.arg)]
            others += [node.id for node in ast.walk(tree) if isinstance(node, ast.Name) and isinstance(node.ctx, ast.Store)]
            self.assertEqual([name for name in others if name in drawn or name in dir(builtins)], [], path)

    def test_imports_are_of_the_package_and_go_one_way(self):
        drawn = {}
        for path, tree in trees():
            rows = [node for node in ast.walk(tree) if isinstance(node, ast.ImportFrom)]
            for row in rows:
                self.assertEqual((row.level, row.module.partition(".")[0]), (0, "noshortring"), path)
                source = FOLDER / (row.module.partition(".")[2] + ".py")
                tops = [node for node in ast.parse(source.read_text()).body]
                own = {node.name for node in tops if isinstance(node, (ast.FunctionDef, ast.ClassDef))}
                own |= {target.id for node in tops if isinstance(node, ast.Assign) for target in node.targets}
                self.assertLessEqual({name.name for name in row.names}, own, path)
            drawn["noshortring." + path.stem] = {row.module for row in rows}
        while drawn:
            free = [name for name, sources in drawn.items() if not sources & set(drawn)]
            self.assertNotEqual(free, [], drawn)
            for name in free:
                drawn.pop(name)


if __name__ == "__main__":
    unittest.main()
