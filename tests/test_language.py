"""The package keeps to the part of Python that it is written in: the rules that a short look can tell."""

import ast
import builtins
import pathlib
import re
import unittest

FOLDER = pathlib.Path(__file__).resolve().parent.parent / "noshortring"
FILES = sorted(FOLDER.glob("*.py"))
NODES = """Module Expr ImportFrom alias FunctionDef ClassDef arguments arg Return Assign AugAssign If While For Break
Continue Pass Raise Try ExceptHandler Call Attribute Subscript Slice Name Constant List Tuple Dict ListComp
comprehension IfExp Lambda BinOp UnaryOp BoolOp Compare JoinedStr FormattedValue Load Store Add Sub Mult FloorDiv Mod
Pow BitAnd BitOr BitXor LShift RShift Invert Not USub And Or Eq NotEq Lt LtE Gt GtE Is IsNot In NotIn keyword""".split()
OWN_NAMES = """len range enumerate zip min max sum abs sorted reversed int str bool list tuple dict set frozenset isinstance
ord repr any all divmod ValueError KeyError""".split()
METHODS = """append clear copy count endswith extend find get index insert isalnum isalpha isdigit items join keys lower
partition pop remove replace reverse setdefault split splitlines startswith strip update upper values zfill
bit_length __init__""".split()
WORDS = re.compile(r"\b(type|typing|typing_extensions|[eE]num|IntEnum|StrEnum|Flag|IntFlag|Generic|Protocol|ABC|ABCMeta"
                   r"|namedtuple|NamedTuple|TypedDict|TYPE_CHECKING|abstractmethod)\b|dataclass|overload|contextmanager")


WALKED = ("zip", "enumerate", "reversed", "range", "items", "keys", "values")
WALKERS = ("list", "tuple", "dict", "sorted", "sum", "any", "all", "enumerate", "zip", "min", "max", "join")
KEYWORDS = {"sorted": ("key", "reverse"), "min": ("key", "default"), "max": ("key", "default"), "sum": ("start",),
            "enumerate": ("start",), "zip": ("strict",)}


def called(node):
    """The name of what a node calls, None where it is no call."""
    if not isinstance(node, ast.Call):
        return None
    return getattr(node.func, "id", None) or getattr(node.func, "attr", None)


def parents_of(tree):
    return {child: node for node in ast.walk(tree) for child in ast.iter_child_nodes(node)}


def is_plain(node, above):
    """Whether a value of a file's top is plain: numbers, texts, and rows of these and of functions from above."""
    if isinstance(node, ast.Name):
        return node.id in above
    if isinstance(node, (ast.List, ast.Tuple)):
        return all(is_plain(each, above) for each in node.elts)
    if isinstance(node, ast.Dict):
        return all(is_plain(each, above) for each in node.keys + node.values)
    return isinstance(node, ast.Constant)


def trees():
    return [(path, ast.parse(path.read_text())) for path in FILES]


def bound_names(tree):
    """The names that a file binds anywhere."""
    names = set()
    for node in ast.walk(tree):
        if isinstance(node, (ast.FunctionDef, ast.ClassDef)):
            names.add(node.name)
        elif isinstance(node, ast.arg):
            names.add(node.arg)
        elif isinstance(node, ast.Name) and isinstance(node.ctx, ast.Store):
            names.add(node.id)
        elif isinstance(node, ast.alias):
            names.add(node.asname or node.name)
    return names


class Language(unittest.TestCase):
    def test_nothing_else_lies_in_the_package(self):
        others = [path.name for path in FOLDER.iterdir() if path.suffix != ".py" and path.name != "__pycache__"]
        self.assertEqual(others, [])
        self.assertIn("__init__.py", [path.name for path in FILES])

    def test_signs_and_sizes(self):
        for path in FILES:
            text = path.read_text()
            self.assertTrue(all(" " <= sign <= "~" or sign == "\n" for sign in text), path)
            self.assertIsNone(WORDS.search(text), path)
            rows = text.split("\n")
            self.assertLessEqual(len(rows), 400, path)
            self.assertLessEqual(max(map(len, rows)), 120, path)

    def test_functions_are_short_and_plain(self):
        for path, tree in trees():
            for node in ast.walk(tree):
                if isinstance(node, ast.FunctionDef):
                    self.assertLessEqual(node.end_lineno - node.lineno + 1, 40, (path, node.name))
                    self.assertEqual(node.decorator_list, [])
                    self.assertIsNone(node.args.vararg or node.args.kwarg)

    def test_forms_of_the_language(self):
        for path, tree in trees():
            for node in ast.walk(tree):
                self.assertIn(node.__class__.__name__, NODES, (path, getattr(node, "lineno", 0)))
                if isinstance(node, ast.Assign):
                    self.assertEqual(len(node.targets), 1, (path, node.lineno))
                if isinstance(node, ast.ListComp):
                    self.assertEqual(len(node.generators), 1, (path, node.lineno))
                    self.assertLessEqual(len(node.generators[0].ifs), 1, (path, node.lineno))
                if isinstance(node, ast.Constant):
                    self.assertNotIsInstance(node.value, (float, bytes), (path, node.lineno))
                if isinstance(node, (ast.For, ast.While)):
                    self.assertEqual(node.orelse, [], (path, node.lineno))

    def test_names(self):
        for path, tree in trees():
            bound = bound_names(tree)
            self.assertEqual([name for name in bound if name in OWN_NAMES], [], path)
            for node in ast.walk(tree):
                if isinstance(node, ast.Name):
                    self.assertIn(node.id, bound | set(OWN_NAMES), (path, node.lineno))
                    self.assertFalse(node.id.startswith("_"), (path, node.lineno))
                if isinstance(node, ast.Call) and isinstance(node.func, ast.Attribute):
                    self.assertIn(node.func.attr, METHODS, (path, node.lineno))

    def test_locals_are_not_called_like_imports(self):
        for path, tree in trees():
            drawn = {name.name for node in ast.walk(tree) if isinstance(node, ast.ImportFrom) for name in node.names}
            others = [node.arg for node in ast.walk(tree) if isinstance(node, ast.arg)]
            others += [node.id for node in ast.walk(tree) if isinstance(node, ast.Name) and isinstance(node.ctx, ast.Store)]
            self.assertEqual([name for name in others if name in drawn or name in dir(builtins)], [], path)

    def test_the_top_of_each_file(self):
        for path, tree in trees():
            above = []
            names = []
            for number, node in enumerate(tree.body):
                if isinstance(node, (ast.FunctionDef, ast.ClassDef)):
                    names.append(node.name)
                    above += [node.name] if isinstance(node, ast.FunctionDef) else []
                elif isinstance(node, ast.ImportFrom):
                    names += [name.name for name in node.names]
                elif isinstance(node, ast.Assign):
                    names.append(node.targets[0].id)
                    self.assertTrue(is_plain(node.value, above), (path, node.lineno))
                    within = [each for each in ast.walk(node.value) if isinstance(each, (ast.List, ast.Dict))]
                    self.assertTrue(within in ([], [node.value]), (path, node.lineno))
                else:
                    self.assertTrue(number == 0 and ast.get_docstring(tree), (path, node.lineno))
            self.assertEqual(len(names), len(set(names)), path)
            self.assertTrue(tree.body and ast.get_docstring(tree), path)

    def test_rows_of_the_top_are_only_read(self):
        for path, tree in trees():
            kept = {node.targets[0].id for node in tree.body
                    if isinstance(node, ast.Assign) and isinstance(node.value, (ast.List, ast.Dict))}
            parents = parents_of(tree)
            for node in ast.walk(tree):
                if isinstance(node, ast.Name) and node.id in kept and isinstance(node.ctx, ast.Load):
                    around = parents[node]
                    index = isinstance(around, ast.Subscript) and isinstance(around.ctx, ast.Load) and around.value is node
                    asked = isinstance(around, ast.Compare) and isinstance(around.ops[0], (ast.In, ast.NotIn))
                    self.assertTrue(index or asked, (path, node.lineno))

    def test_targets_and_comparisons(self):
        for path, tree in trees():
            for node in ast.walk(tree):
                if isinstance(node, (ast.Assign, ast.AugAssign)):
                    target = node.targets[0] if isinstance(node, ast.Assign) else node.target
                    self.assertIsInstance(target, (ast.Name, ast.Attribute, ast.Subscript), (path, node.lineno))
                if isinstance(node, ast.Compare) and isinstance(node.ops[0], (ast.Is, ast.IsNot)):
                    self.assertIn(getattr(node.comparators[0], "value", 0), (None, True, False), (path, node.lineno))
                if isinstance(node, ast.BinOp) and isinstance(node.op, ast.Pow):
                    self.assertIsInstance(node.right, ast.Constant, (path, node.lineno))
                if isinstance(node, ast.Constant) and isinstance(node.value, str):
                    self.assertNotIn("%", node.value, (path, node.lineno))
                if isinstance(node, ast.FormattedValue):
                    self.assertIsInstance(node.value, ast.Name, (path, node.lineno))

    def test_what_is_walked_at_once(self):
        for path, tree in trees():
            parents = parents_of(tree)
            for node in ast.walk(tree):
                around = parents.get(node)
                if called(node) in WALKED:
                    walk = isinstance(around, (ast.For, ast.comprehension)) and around.iter is node
                    self.assertTrue(walk or called(around) in WALKERS, (path, node.lineno))
                if called(node) == "set":
                    compared = isinstance(around, ast.Compare) and isinstance(around.ops[0], (ast.In, ast.NotIn, ast.Eq, ast.NotEq))
                    self.assertTrue(compared or called(around) in ("sorted", "len"), (path, node.lineno))
                if isinstance(node, ast.Call):
                    allowed = KEYWORDS.get(called(node), ())
                    self.assertTrue(all(each.arg in allowed for each in node.keywords), (path, node.lineno))

    def test_loops_do_not_change_what_they_walk(self):
        for path, tree in trees():
            for loop in [node for node in ast.walk(tree) if isinstance(node, ast.For)]:
                names = {node.id for node in ast.walk(loop.iter) if isinstance(node, ast.Name)}
                for node in [each for row in loop.body for each in ast.walk(row)]:
                    if isinstance(node, ast.Call) and isinstance(node.func, ast.Attribute):
                        if node.func.attr in ("append", "clear", "extend", "insert", "pop", "remove", "reverse", "update"):
                            self.assertNotIn(getattr(node.func.value, "id", None), names, (path, node.lineno))
                    if isinstance(node, ast.Subscript) and isinstance(node.ctx, ast.Store):
                        self.assertNotIn(getattr(node.value, "id", None), names, (path, node.lineno))

    def test_classes(self):
        methods = set()
        fields = set()
        for path, tree in trees():
            for node in [each for each in ast.walk(tree) if isinstance(each, ast.ClassDef)]:
                self.assertIn(node, tree.body, (path, node.lineno))
                self.assertLessEqual(len(node.bases), 1, (path, node.lineno))
                for row in node.body:
                    self.assertTrue(isinstance(row, ast.FunctionDef) or row is node.body[0], (path, row.lineno))
                methods |= {row.name for row in node.body if isinstance(row, ast.FunctionDef)}
            fields |= {node.attr for node in ast.walk(tree) if isinstance(node, ast.Attribute) and isinstance(node.ctx, ast.Store)}
        self.assertEqual(methods & fields, set())

    def test_imports_are_of_the_package_and_go_one_way(self):
        drawn = {}
        for path, tree in trees():
            rows = [node for node in ast.walk(tree) if isinstance(node, ast.ImportFrom)]
            for row in rows:
                self.assertEqual((row.level, row.module.partition(".")[0]), (0, "noshortring"), path)
                source = FOLDER / (row.module.partition(".")[2] + ".py")
                tops = [node for node in ast.parse(source.read_text()).body]
                own = {node.name for node in tops if isinstance(node, (ast.FunctionDef, ast.ClassDef))}
                own |= {target.id for node in tops if isinstance(node, ast.Assign) for target in node.targets}
                self.assertLessEqual({name.name for name in row.names}, own, path)
            drawn["noshortring." + path.stem] = {row.module for row in rows}
        while drawn:
            free = [name for name, sources in drawn.items() if not sources & set(drawn)]
            self.assertNotEqual(free, [], drawn)
            for name in free:
                drawn.pop(name)


if __name__ == "__main__":
    unittest.main()
