"""The form of the package's files: what ../shared/LANGUAGE.md asks for and a plain walk can see."""

import ast
import builtins
import pathlib
import re
import unittest

PACKAGE = pathlib.Path(__file__).resolve().parent.parent / "lackword"
FILES = sorted(PACKAGE.rglob("*.py"))
TREES = {path.name: ast.parse(path.read_text()) for path in FILES}

BUILTINS = set(
    "len range enumerate zip min max sum abs sorted reversed int str bool list tuple dict set frozenset isinstance "
    "ord repr any all divmod Exception ValueError TypeError KeyError IndexError LookupError ZeroDivisionError "
    "ArithmeticError OverflowError RuntimeError NotImplementedError AttributeError StopIteration".split()
)
PYTHON_METHODS = set(
    "append clear copy count endswith extend find get index insert isalnum isalpha isdigit islower isspace isupper "
    "items join keys ljust lower lstrip partition pop remove replace reverse rfind rjust rpartition rsplit rstrip "
    "setdefault split splitlines startswith strip update upper values zfill bit_length".split()
)
OWN_DUNDERS = {"__init__", "__eq__", "__repr__", "__str__", "__len__"}
WORDS_OUT = re.compile(
    r"\b(type|typing|typing_extensions|enum|Enum|IntEnum|StrEnum|Flag|IntFlag|Generic|Protocol|ABC|ABCMeta|"
    r"namedtuple|NamedTuple|TypedDict|TYPE_CHECKING|abstractmethod)\b|dataclass|overload|contextmanager"
)
NODES_OUT = (
    ast.With, ast.Match, ast.Delete, ast.Global, ast.Nonlocal, ast.Assert, ast.Yield, ast.YieldFrom, ast.Await,
    ast.AsyncFunctionDef, ast.AsyncFor, ast.AsyncWith, ast.Import, ast.SetComp, ast.DictComp, ast.GeneratorExp,
    ast.NamedExpr, ast.Starred, ast.Div, ast.AnnAssign,
)
PLAIN_PARTS = (ast.Constant, ast.Name, ast.Load, ast.List, ast.Tuple, ast.Dict, ast.UnaryOp, ast.USub)
WALKED_AT_ONCE = {"zip", "enumerate", "reversed", "range", "items", "keys", "values"}
WALKERS = set("list tuple dict sorted sum any all enumerate zip min max join".split())
KEYWORDS = {
    "sorted": {"key", "reverse"}, "min": {"key", "default"}, "max": {"key", "default"}, "sum": {"start"},
    "enumerate": {"start"}, "zip": {"strict"},
}
PYTHONS_OWN = set().union(*(dir(kind) for kind in (str, int, list, tuple, dict, set, bytes)))
BETWEEN_SETS = (ast.Sub, ast.BitAnd, ast.BitOr, ast.BitXor)
MAY_BE_METHODS = PYTHON_METHODS | {"add", "discard"}
MAY_BE_VALUES = set("count index title find get join lower upper split strip copy add".split())


def called_name(node):
    if not isinstance(node, ast.Call):
        return None
    return node.func.attr if isinstance(node.func, ast.Attribute) else node.func.id


def parents(tree):
    return {child: node for node in ast.walk(tree) for child in ast.iter_child_nodes(node)}


def walk(kind):
    return [(name, node) for name, tree in TREES.items() for node in ast.walk(tree) if isinstance(node, kind)]


def bound_names(tree):
    names = set()
    for node in ast.walk(tree):
        if isinstance(node, (ast.FunctionDef, ast.ClassDef)):
            names.add(node.name)
        elif isinstance(node, ast.arg):
            names.add(node.arg)
        elif isinstance(node, ast.Name) and isinstance(node.ctx, ast.Store):
            names.add(node.id)
        elif isinstance(node, ast.ImportFrom):
            names.update(part.asname or part.name for part in node.names)
        elif isinstance(node, ast.ExceptHandler) and node.name:
            names.add(node.name)
    return names


class TestForm(unittest.TestCase):
    def test_files(self):
        for path in PACKAGE.rglob("*"):
            if "__pycache__" not in path.parts:
                self.assertRegex(path.name, r"^[a-z0-9_]+\.py$")
        self.assertIn("__init__.py", TREES)

    def test_signs_and_sizes(self):
        for path in FILES:
            text = path.read_text()
            self.assertRegex(text, r"\A[\n -~]*\Z", path.name)
            self.assertLessEqual(len(text.splitlines()), 400, path.name)
            self.assertLessEqual(max(len(line) for line in text.splitlines()), 120, path.name)
        for name, node in walk(ast.FunctionDef):
            self.assertLessEqual(node.end_lineno - node.lineno + 1, 40, (name, node.name))

    def test_words_that_stand_nowhere(self):
        for path in FILES:
            self.assertIsNone(WORDS_OUT.search(path.read_text()), path.name)

    def test_statements_and_expressions(self):
        for name, node in walk(NODES_OUT):
            self.fail((name, node.lineno, ast.dump(node)[:80]))
        for name, node in walk((ast.FunctionDef, ast.ClassDef)):
            self.assertEqual(node.decorator_list, [], (name, node.name))
        for name, node in walk((ast.For, ast.While)):
            self.assertEqual(node.orelse, [], (name, node.lineno))
        for name, node in walk(ast.Try):
            self.assertEqual(node.finalbody, [], (name, node.lineno))
        for name, node in walk(ast.Assign):
            self.assertEqual(len(node.targets), 1, (name, node.lineno))
            self.assertIsInstance(node.targets[0], (ast.Name, ast.Attribute, ast.Subscript), (name, node.lineno))
        for name, node in walk(ast.Expr):
            self.assertTrue(isinstance(node.value, ast.Call) or node is TREES[name].body[0], (name, node.lineno))

    def test_constants(self):
        for name, node in walk(ast.Constant):
            self.assertNotIsInstance(node.value, (float, complex, bytes), (name, node.lineno))
            if isinstance(node.value, str):
                self.assertNotIn("%", node.value, (name, node.lineno))

    def test_imports(self):
        drawn = {name: set() for name in TREES}
        for name, node in walk(ast.ImportFrom):
            self.assertEqual(node.level, 0, name)
            self.assertRegex(node.module, r"^lackword\.[a-z]+$", name)
            source = node.module.split(".")[1] + ".py"
            drawn[name].add(source)
            own = {part.name for part in TREES[source].body if isinstance(part, (ast.FunctionDef, ast.ClassDef))}
            own |= {part.targets[0].id for part in TREES[source].body if isinstance(part, ast.Assign)}
            for part in node.names:
                self.assertIn(part.name, own, name)
        while drawn:
            free = [name for name in drawn if not drawn[name] & set(drawn)]
            self.assertTrue(free, "files draw from one another")
            drawn = {name: drawn[name] for name in drawn if name not in free}

    def test_names(self):
        for name, tree in TREES.items():
            bound = bound_names(tree)
            for own in bound - OWN_DUNDERS:
                self.assertRegex(own, r"^[A-Za-z][A-Za-z0-9_]*$", name)
            functions_of_classes = {
                part.name for node in ast.walk(tree) if isinstance(node, ast.ClassDef) for part in node.body
                if isinstance(part, ast.FunctionDef)
            }
            self.assertEqual((bound - functions_of_classes) & set(dir(builtins)), set(), name)
            used = {node.id for node in ast.walk(tree) if isinstance(node, ast.Name)}
            self.assertEqual(used - bound - BUILTINS, set(), name)

    def test_no_local_is_called_like_a_class_or_an_import(self):
        for name, tree in TREES.items():
            taken = {node.name for node in tree.body if isinstance(node, ast.ClassDef)}
            for node in tree.body:
                if isinstance(node, ast.ImportFrom):
                    taken.update(part.name for part in node.names)
            for node in ast.walk(tree):
                if isinstance(node, ast.arg):
                    self.assertNotIn(node.arg, taken, name)
                if isinstance(node, ast.Name) and isinstance(node.ctx, ast.Store):
                    self.assertNotIn(node.id, taken, name)

    def test_methods_and_values(self):
        methods = {
            part.name for name, node in walk(ast.ClassDef) for part in node.body if isinstance(part, ast.FunctionDef)
        }
        values = {node.attr for name, node in walk(ast.Attribute) if isinstance(node.ctx, ast.Store)}
        self.assertEqual(methods & values, set())
        called = {node.func.attr for name, node in walk(ast.Call) if isinstance(node.func, ast.Attribute)}
        self.assertEqual(called - methods - PYTHON_METHODS, set())
        dunders = {method for method in methods if method.startswith("__")}
        self.assertLessEqual(dunders, OWN_DUNDERS)

    def test_own_methods_and_values_are_called_unlike_pythons(self):
        for name, node in walk(ast.ClassDef):
            methods = {part.name for part in node.body if isinstance(part, ast.FunctionDef)}
            self.assertEqual(len(methods), len([part for part in node.body if isinstance(part, ast.FunctionDef)]))
            self.assertEqual((methods - OWN_DUNDERS) & (PYTHONS_OWN - MAY_BE_METHODS), set(), (name, node.name))
        for name, node in walk(ast.Attribute):
            self.assertFalse(node.attr.startswith("_") and node.attr != "__init__", (name, node.lineno))
            if isinstance(node.ctx, ast.Store):
                self.assertNotIn(node.attr, PYTHONS_OWN - MAY_BE_VALUES, (name, node.lineno))

    def test_the_top_of_a_file_and_parameters(self):
        for name, tree in TREES.items():
            self.assertTrue(ast.get_docstring(tree), name)
            for node in tree.body[1:]:
                self.assertIsInstance(node, (ast.ImportFrom, ast.FunctionDef, ast.ClassDef, ast.Assign), name)
        for name, node in walk((ast.FunctionDef, ast.Lambda)):
            signs = node.args
            self.assertEqual((signs.vararg, signs.kwarg, signs.kwonlyargs, signs.posonlyargs), (None, None, [], []))

    def test_values_of_the_top_are_plain(self):
        for name, tree in TREES.items():
            above = set()
            for node in tree.body:
                if isinstance(node, ast.FunctionDef):
                    above.add(node.name)
                if not isinstance(node, ast.Assign):
                    continue
                self.assertIsInstance(node.targets[0], ast.Name, (name, node.lineno))
                for part in ast.walk(node.value):
                    self.assertIsInstance(part, PLAIN_PARTS, (name, node.lineno))
                    if isinstance(part, ast.Name):
                        self.assertIn(part.id, above, (name, node.lineno))
                    if isinstance(part, (ast.List, ast.Dict)):
                        self.assertIs(part, node.value, (name, node.lineno))

    def test_names_of_the_top_are_bound_once(self):
        for name, tree in TREES.items():
            bound = [node.targets[0].id for node in tree.body if isinstance(node, ast.Assign)]
            bound += [node.name for node in tree.body if isinstance(node, (ast.FunctionDef, ast.ClassDef))]
            bound += [part.name for node in tree.body if isinstance(node, ast.ImportFrom) for part in node.names]
            self.assertEqual(len(bound), len(set(bound)), name)

    def test_keywords(self):
        for name, node in walk(ast.Call):
            used = {part.arg for part in node.keywords}
            self.assertLessEqual(used, KEYWORDS.get(called_name(node), set()), (name, node.lineno))

    def test_what_is_walked_at_once(self):
        for name, tree in TREES.items():
            above = parents(tree)
            for node in ast.walk(tree):
                if called_name(node) not in WALKED_AT_ONCE:
                    continue
                outer = above[node]
                walked = isinstance(outer, (ast.For, ast.comprehension)) and outer.iter is node
                self.assertTrue(walked or called_name(outer) in WALKERS, (name, node.lineno))

    def test_sets_are_not_kept(self):
        for name, tree in TREES.items():
            above = parents(tree)
            for node in ast.walk(tree):
                self.assertNotIsInstance(node, ast.Set, name)
                if called_name(node) not in ("set", "frozenset"):
                    continue
                outer = above[node]
                while isinstance(outer, ast.BinOp) and isinstance(outer.op, BETWEEN_SETS):
                    outer = above[outer]
                held = isinstance(outer, ast.Compare) or called_name(outer) in ("sorted", "len")
                self.assertTrue(held, (name, node.lineno))

    def test_is_stands_beside_none_true_and_false(self):
        for name, node in walk(ast.Compare):
            for operator, right in zip(node.ops, node.comparators):
                if isinstance(operator, (ast.Is, ast.IsNot)):
                    self.assertIn(ast.unparse(right), ("None", "True", "False"), (name, node.lineno))
