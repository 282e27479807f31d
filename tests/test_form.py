"""The form of the package's files: the part of Python that they keep to, as far as it can be seen by a walk."""

import ast
import builtins
import re
import unittest
from pathlib import Path

PACKAGE = Path(__file__).resolve().parent.parent / "sumcraft"

OWN_NAMES = set("""len range enumerate zip min max sum abs sorted reversed int str bool list tuple dict set frozenset
isinstance ord repr any all divmod Exception ValueError TypeError KeyError IndexError LookupError ZeroDivisionError
ArithmeticError OverflowError RuntimeError NotImplementedError AttributeError StopIteration""".split())
METHODS = set("""append clear copy count endswith extend find get index insert isalnum isalpha isdigit islower isspace
isupper items join keys ljust lower lstrip partition pop remove replace reverse rfind rjust rpartition rsplit rstrip
setdefault split splitlines startswith strip update upper values zfill bit_length""".split())
DUNDERS = {"__init__", "__eq__", "__repr__", "__str__", "__len__"}
STATEMENTS = (
    ast.Assign, ast.AugAssign, ast.If, ast.While, ast.For, ast.Return, ast.Break, ast.Continue, ast.Pass, ast.Raise,
    ast.Try, ast.Expr, ast.FunctionDef, ast.ClassDef, ast.ImportFrom, ast.Import,
)
EXPRESSIONS = (
    ast.Constant, ast.Name, ast.List, ast.Tuple, ast.Dict, ast.Set, ast.BinOp, ast.UnaryOp, ast.BoolOp, ast.Compare,
    ast.IfExp, ast.Call, ast.Attribute, ast.Subscript, ast.Slice, ast.ListComp, ast.JoinedStr, ast.FormattedValue,
    ast.Lambda,
)
VALUES = set("count index title find get join lower upper split strip copy add".split())
WALKED = {"zip", "enumerate", "reversed", "range"}
WALKED_METHODS = {"items", "keys", "values"}
WALKERS = {"list", "tuple", "dict", "sorted", "sum", "any", "all", "enumerate", "zip"}
NOT_NAMES = set("""register mro elements open input version_info with_traceback add_note attrgetter breakpoint builtins
compile copyright credits delattr dir eval exec exit gc getattr globals hasattr help id importlib license locals
methodcaller os quit setattr super type vars format format_map""".split())
NOT_WORDS = """type typing typing_extensions enum Enum IntEnum StrEnum Flag IntFlag Generic Protocol ABC ABCMeta
namedtuple NamedTuple TypedDict TYPE_CHECKING abstractmethod""".split()
NOT_FILES = set("test tests testing site conftest sitecustomize usercustomize".split()) | set(NOT_WORDS)


class Source:
    """A file of the package, read once."""

    def __init__(self, path):
        self.path = path
        self.text = path.read_text(encoding="utf-8")
        self.tree = ast.parse(self.text)
        self.nodes = list(ast.walk(self.tree))
        self.parent = {child: node for node in self.nodes for child in ast.iter_child_nodes(node)}

    def of(self, *kinds):
        return [node for node in self.nodes if isinstance(node, kinds)]

    def where(self, node):
        return f"{self.path.name}:{getattr(node, 'lineno', 0)}"

    def bound(self):
        """All names that the file binds anywhere, at its top or within."""
        names = [node.id for node in self.of(ast.Name) if isinstance(node.ctx, ast.Store)]
        names += [node.arg for node in self.of(ast.arg)]
        names += [node.name for node in self.of(ast.FunctionDef, ast.ClassDef)]
        names += [alias.name for node in self.of(ast.ImportFrom) for alias in node.names]
        return names + [node.name for node in self.of(ast.ExceptHandler) if node.name]


SOURCES = [Source(path) for path in sorted(PACKAGE.glob("*.py"))]


def drawn_from(source):
    return [node.module.partition(".")[2] for node in source.of(ast.ImportFrom) if node.module != "__future__"]


class Form(unittest.TestCase):
    def each(self, *kinds):
        for source in SOURCES:
            for node in source.of(*kinds):
                yield source, node, source.where(node)

    def test_files(self):
        names = [path.name for path in PACKAGE.iterdir() if path.name != "__pycache__"]
        self.assertIn("__init__.py", names)
        for name in names:
            self.assertRegex(name, r"^[a-z0-9_]+\.py$")
            stem = name[:-3]
            self.assertFalse(stem in NOT_FILES or stem.startswith("test_") or stem in vars(builtins), name)

    def test_signs_and_sizes(self):
        for source in SOURCES:
            self.assertRegex(source.text, r"\A[\n -~]*\Z")
            lines = source.text.split("\n")
            self.assertLessEqual(len(lines), 400, source.path)
            self.assertLessEqual(max(len(line) for line in lines), 120, source.path)
        for _, node, where in self.each(ast.FunctionDef):
            self.assertLessEqual(node.end_lineno - node.lineno + 1, 40, where)

    def test_imports(self):
        tops = {source.path.stem: source for source in SOURCES}
        for source, node, where in self.each(ast.Import, ast.ImportFrom):
            self.assertIn(node, source.tree.body, where)
            self.assertIsInstance(node, ast.ImportFrom, where)
            if node.module == "__future__":
                continue
            self.assertEqual((node.level, node.module.partition(".")[0]), (0, "sumcraft"), where)
            made = [thing.name for thing in tops[node.module.partition(".")[2]].tree.body
                    if isinstance(thing, (ast.FunctionDef, ast.ClassDef))]
            made += [thing.targets[0].id for thing in tops[node.module.partition(".")[2]].tree.body
                     if isinstance(thing, ast.Assign)]
            for alias in node.names:
                self.assertIn(alias.name, made, where)

    def test_no_two_files_draw_from_one_another(self):
        draws = {source.path.stem: drawn_from(source) for source in SOURCES}
        for start in draws:
            seen, waiting = set(), list(draws[start])
            while waiting:
                name = waiting.pop()
                self.assertNotEqual(name, start)
                if name not in seen:
                    seen.add(name)
                    waiting += draws[name]

    def test_top_of_a_module(self):
        for source in SOURCES:
            self.assertIsNotNone(ast.get_docstring(source.tree), source.path)
            names = []
            for node in source.tree.body[1:]:
                self.assertIsInstance(node, (ast.ImportFrom, ast.FunctionDef, ast.ClassDef, ast.Assign))
                if isinstance(node, ast.Assign):
                    for inner in ast.walk(node.value):
                        self.assertNotIsInstance(inner, (ast.Call, ast.ListComp, ast.Set, ast.Lambda, ast.BinOp))
                    names.append(node.targets[0].id)
                elif isinstance(node, ast.ImportFrom):
                    names += [alias.name for alias in node.names]
                else:
                    names.append(node.name)
            self.assertEqual(len(names), len(set(names)), source.path)

    def test_functions_and_classes(self):
        for _, node, where in self.each(ast.FunctionDef):
            self.assertEqual(node.decorator_list, [], where)
            self.assertIsNone(node.returns, where)
            self.assertFalse(node.args.vararg or node.args.kwarg or node.args.kwonlyargs or node.args.posonlyargs, where)
            for default in node.args.defaults:
                self.assertIsInstance(default, (ast.Constant, ast.UnaryOp, ast.Tuple), where)
        for source, node, where in self.each(ast.ClassDef):
            self.assertIn(node, source.tree.body, where)
            self.assertEqual((node.decorator_list, node.keywords), ([], []), where)
            self.assertLessEqual(len(node.bases), 1, where)
            for inner in node.body:
                self.assertIsInstance(inner, (ast.FunctionDef, ast.Expr), where)

    def test_statements(self):
        for source in SOURCES:
            for node in source.of(ast.stmt):
                self.assertIsInstance(node, STATEMENTS, source.where(node))
                if isinstance(node, ast.Assign):
                    self.assertEqual(len(node.targets), 1, source.where(node))
                if isinstance(node, (ast.For, ast.While)):
                    self.assertEqual(node.orelse, [], source.where(node))
                if isinstance(node, ast.Try):
                    self.assertEqual(node.finalbody, [], source.where(node))
                    self.assertTrue(all(handler.type for handler in node.handlers), source.where(node))
                if isinstance(node, ast.Expr):
                    self.assertIsInstance(node.value, (ast.Call, ast.Constant), source.where(node))

    def test_expressions(self):
        for source in SOURCES:
            for node in source.of(ast.expr):
                self.assertIsInstance(node, EXPRESSIONS, source.where(node))
        for _, node, where in self.each(ast.Constant):
            self.assertIn(type(node.value), (int, str, bool, type(None)), where)
            if isinstance(node.value, str):
                self.assertNotIn(chr(37), node.value, where)
        for _, node, where in self.each(ast.ListComp):
            self.assertEqual(len(node.generators), 1, where)
            self.assertLessEqual(len(node.generators[0].ifs), 1, where)
        for _, node, where in self.each(ast.FormattedValue):
            self.assertIsInstance(node.value, ast.Name, where)
            self.assertIsNone(node.format_spec, where)
        for _, node, where in self.each(ast.BinOp, ast.AugAssign):
            self.assertNotIsInstance(node.op, (ast.Div, ast.MatMult), where)
            if isinstance(node.op, ast.Pow):
                self.assertIsInstance(node.right, ast.Constant, where)

    def test_is_stands_beside_none_and_truths_alone(self):
        for _, node, where in self.each(ast.Compare):
            for op, right in zip(node.ops, node.comparators):
                if isinstance(op, (ast.Is, ast.IsNot)):
                    self.assertIsInstance(right, ast.Constant, where)
                    self.assertTrue(right.value is None or isinstance(right.value, bool), where)

    def test_names(self):
        for source in SOURCES:
            bound = source.bound()
            for node in source.of(ast.Name):
                if isinstance(node.ctx, ast.Load) and node.id not in bound:
                    self.assertIn(node.id, OWN_NAMES, source.where(node))
            for name in bound:
                self.assertTrue(re.fullmatch(r"[A-Za-z][A-Za-z0-9_]*", name) or name in DUNDERS, (source.path, name))
                self.assertNotIn(name, NOT_NAMES, source.path)

    def test_no_local_is_called_like_a_class_an_import_or_a_name_of_python(self):
        for source in SOURCES:
            taken = [alias.name for node in source.of(ast.ImportFrom) for alias in node.names]
            taken += [node.name for node in source.of(ast.ClassDef)] + dir(builtins)
            names = [node.id for node in source.of(ast.Name) if isinstance(node.ctx, ast.Store)]
            names += [node.arg for node in source.of(ast.arg)]
            names += [node.name for node in source.tree.body if isinstance(node, ast.FunctionDef)]
            self.assertEqual(sorted(set(names) & set(taken)), [], source.path)

    def test_words_that_stand_nowhere(self):
        for source in SOURCES:
            words = set(re.findall(r"\w+", source.text))
            self.assertEqual(sorted(words & set(NOT_WORDS)), [], source.path)
            self.assertNotRegex(source.text, "dataclass|overload|contextmanager")

    def test_annotations_are_none(self):
        for _, node, where in self.each(ast.arg):
            self.assertIsNone(node.annotation, where)

    def test_methods(self):
        own = {inner.name for source in SOURCES for node in source.of(ast.ClassDef) for inner in node.body
               if isinstance(inner, ast.FunctionDef)}
        for name in own:
            self.assertTrue(name in DUNDERS or not name.startswith("_"), name)
        for _, node, where in self.each(ast.Call):
            if isinstance(node.func, ast.Attribute):
                self.assertIn(node.func.attr, METHODS | own, where)
        values = {node.attr for _, node, _ in self.each(ast.Attribute) if isinstance(node.ctx, ast.Store)}
        self.assertEqual(sorted(values & own), [])
        python = {name for kind in (str, int, list, dict, tuple, set, bytes) for name in dir(kind)}
        self.assertEqual(sorted(own & python - METHODS - DUNDERS - {"add", "discard"}), [])
        self.assertEqual(sorted(values & (python | {"args"}) - VALUES), [])

    def test_values_are_given_through_a_local_name(self):
        for source, node, where in self.each(ast.Attribute):
            if isinstance(node.ctx, ast.Store):
                self.assertIsInstance(node.value, ast.Name, where)
                tops = [thing.name for thing in source.tree.body if isinstance(thing, (ast.FunctionDef, ast.ClassDef))]
                self.assertNotIn(node.value.id, tops, where)

    def test_no_method_stands_twice_and_init_gives_back_nothing(self):
        for _, node, where in self.each(ast.ClassDef):
            names = [inner.name for inner in node.body if isinstance(inner, ast.FunctionDef)]
            self.assertEqual(len(names), len(set(names)), where)
            for inner in node.body:
                if isinstance(inner, ast.FunctionDef) and inner.name == "__init__":
                    self.assertFalse([thing for thing in ast.walk(inner) if isinstance(thing, ast.Return)], where)

    def test_nothing_of_a_files_top_is_changed(self):
        for source in SOURCES:
            tops = [thing.targets[0].id for thing in source.tree.body if isinstance(thing, ast.Assign)]
            for node in source.of(ast.Name):
                if node.id in tops and isinstance(node.ctx, ast.Store):
                    self.assertIs(source.parent[source.parent[node]], source.tree, source.where(node))
            for node in source.of(ast.Subscript):
                if isinstance(node.ctx, ast.Store) and isinstance(node.value, ast.Name):
                    self.assertNotIn(node.value.id, tops, source.where(node))

    def test_walked_at_once(self):
        for source, node, where in self.each(ast.Call):
            named = isinstance(node.func, ast.Name) and node.func.id in WALKED
            method = isinstance(node.func, ast.Attribute) and node.func.attr in WALKED_METHODS
            if not (named or method):
                continue
            around = source.parent[node]
            if isinstance(around, (ast.For, ast.comprehension)):
                self.assertIs(around.iter, node, where)
            else:
                self.assertIsInstance(around, ast.Call, where)
                self.assertIs(around.args[0], node, where)
                alone = {"min", "max"} if len(around.args) == 1 else set()
                join = isinstance(around.func, ast.Attribute) and around.func.attr == "join"
                self.assertTrue(join or around.func.id in WALKERS | alone, where)

    def test_errors(self):
        for _, node, where in self.each(ast.Raise):
            self.assertIsInstance(node.exc, ast.Call, where)
        for _, node, where in self.each(ast.ExceptHandler):
            for name in ast.walk(node.type):
                if isinstance(name, ast.Name):
                    self.assertNotIn(name.id, ("Exception", "TypeError"), where)


if __name__ == "__main__":
    unittest.main()
