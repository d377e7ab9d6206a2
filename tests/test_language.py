"""Looks at the package's files by those rules of LANGUAGE.md that a walk through their trees can see."""

import ast
import builtins
import pathlib
import re
import unittest

FOLDER = pathlib.Path(__file__).resolve().parent.parent / "figurewheel"

STATEMENTS = (
    ast.Assign, ast.AnnAssign, ast.AugAssign, ast.If, ast.While, ast.For, ast.Return, ast.Break, ast.Continue,
    ast.Pass, ast.Raise, ast.Try, ast.Expr, ast.FunctionDef, ast.ClassDef, ast.ImportFrom,
)
EXPRESSIONS = (
    ast.Constant, ast.List, ast.Tuple, ast.Dict, ast.Set, ast.BinOp, ast.UnaryOp, ast.BoolOp, ast.Compare, ast.IfExp,
    ast.Call, ast.Attribute, ast.Subscript, ast.Slice, ast.ListComp, ast.JoinedStr, ast.FormattedValue, ast.Name,
    ast.Lambda,
)
OWN_NAMES = set("""
    len range enumerate zip min max sum abs sorted reversed int str bool list tuple dict set frozenset isinstance ord
    repr any all divmod Exception ValueError TypeError KeyError IndexError LookupError ZeroDivisionError
    ArithmeticError OverflowError RuntimeError NotImplementedError AttributeError StopIteration
""".split())
ERROR_NAMES = {name for name in OWN_NAMES if name[0].isupper()} - {"StopIteration", "AttributeError"}
UNDERSCORED = {"__init__", "__eq__", "__repr__", "__str__", "__len__"}
METHODS = set("""
    append clear copy count endswith extend find get index insert isalnum isalpha isdigit islower isspace isupper items
    join keys ljust lower lstrip partition pop remove replace reverse rfind rjust rpartition rsplit rstrip setdefault
    split splitlines startswith strip update upper values zfill bit_length
""".split())
WORDS_NOWHERE = re.compile(
    r"\b(type|typing|typing_extensions|enum|Enum|IntEnum|StrEnum|Flag|IntFlag|Generic|Protocol|ABC|ABCMeta|namedtuple"
    r"|NamedTuple|TypedDict|TYPE_CHECKING|abstractmethod)\b|dataclass|overload|contextmanager"
)
KEYWORDS = {
    "sorted": {"key", "reverse"}, "min": {"key", "default"}, "max": {"key", "default"}, "sum": {"start"},
    "enumerate": {"start"}, "zip": {"strict"},
}
WALKED = {"zip", "enumerate", "reversed", "range"}
WALKED_METHODS = {"items", "keys", "values"}
WALKERS = {"list", "tuple", "dict", "sorted", "sum", "any", "all", "enumerate", "zip", "min", "max"}
VALUE_NAMES = set("count index title find get join lower upper split strip copy add".split())
NOT_VALUE_NAMES = {
    name for kind in (str, int, list, dict, set, bytes, tuple, ValueError) for name in dir(kind)
} - VALUE_NAMES
NAMES_NOWHERE = {"register", "mro", "elements", "open", "input", "version_info", "with_traceback", "add_note"}


def is_text(node):
    return isinstance(node, ast.Expr) and isinstance(node.value, ast.Constant) and isinstance(node.value.value, str)


def bound_in(tree):
    names = [node.name for node in ast.walk(tree) if isinstance(node, (ast.FunctionDef, ast.ClassDef))]
    names += [node.arg for node in ast.walk(tree) if isinstance(node, ast.arg)]
    names += [node.id for node in ast.walk(tree) if isinstance(node, ast.Name) and isinstance(node.ctx, ast.Store)]
    names += [node.name for node in ast.walk(tree) if isinstance(node, ast.ExceptHandler) and node.name]
    return names


def bound_at_top(tree):
    names = []
    for node in tree.body:
        if isinstance(node, (ast.FunctionDef, ast.ClassDef)):
            names.append(node.name)
        if isinstance(node, ast.Assign):
            names += [target.id for target in node.targets]
    return names


def called_name(node):
    return node.func.id if isinstance(node, ast.Call) and isinstance(node.func, ast.Name) else None


def is_walk(node):
    if not isinstance(node, ast.Call):
        return False
    return called_name(node) in WALKED or isinstance(node.func, ast.Attribute) and node.func.attr in WALKED_METHODS


def stands_in_a_walk(parent, node):
    if isinstance(parent, (ast.For, ast.comprehension)):
        return parent.iter is node
    if called_name(parent) in WALKERS:
        return node in parent.args
    return isinstance(parent, ast.Call) and isinstance(parent.func, ast.Attribute) and parent.func.attr == "join"


def stands_as_a_set(parents, node):
    parent = parents[node]
    while isinstance(parent, ast.BinOp):
        node, parent = parent, parents[parent]
    if isinstance(parent, ast.Compare):
        return all(isinstance(op, (ast.In, ast.NotIn, ast.Eq, ast.NotEq)) for op in parent.ops)
    return called_name(parent) in ("sorted", "len") and parent.keywords == []


def drawn_in(tree):
    return [node for node in tree.body if isinstance(node, ast.ImportFrom) and node.module != "__future__"]


class Language(unittest.TestCase):
    @classmethod
    def setUpClass(cls):
        paths = sorted(path for path in FOLDER.rglob("*") if "__pycache__" not in path.parts and path.is_file())
        cls.texts = {path.relative_to(FOLDER).as_posix(): path.read_bytes().decode("utf-8") for path in paths}
        cls.trees = {name: ast.parse(text) for name, text in cls.texts.items() if name.endswith(".py")}

    def each_node(self, *kinds):
        for name, tree in self.trees.items():
            for node in ast.walk(tree):
                if isinstance(node, kinds):
                    yield f"{name}:{getattr(node, 'lineno', 0)}", node

    def test_files(self):
        self.assertIn("__init__.py", self.texts)
        for name, text in self.texts.items():
            self.assertRegex(name, r"^([a-z][a-z0-9_]*|__init__)\.py$")
            self.assertNotIn(name[:-3], dir(builtins))
            self.assertRegex(text, r"\A[ -~\n]*\Z", name)

    def test_size(self):
        for name, text in self.texts.items():
            self.assertLessEqual(len(text.split("\n")), 400, name)
            self.assertLessEqual(max(len(line) for line in text.split("\n")), 120, name)
        for where, node in self.each_node(ast.FunctionDef):
            self.assertLessEqual(node.end_lineno - node.lineno + 1, 40, where)

    def test_imports(self):
        tops = {f"figurewheel.{name[:-3]}": bound_at_top(tree) for name, tree in self.trees.items()}
        for name, tree in self.trees.items():
            for node in drawn_in(tree):
                self.assertEqual(node.level, 0, name)
                for alias in node.names:
                    self.assertIn(alias.name, tops[node.module], name)

    def test_no_two_files_draw_from_one_another(self):
        drawn = {f"figurewheel.{name[:-3]}": [node.module for node in drawn_in(tree)]
                 for name, tree in self.trees.items()}
        while drawn:
            free = [name for name in drawn if not any(other in drawn for other in drawn[name])]
            self.assertTrue(free, drawn)
            drawn = {name: others for name, others in drawn.items() if name not in free}

    def test_statements(self):
        for name, tree in self.trees.items():
            rest = tree.body[1:] if tree.body and is_text(tree.body[0]) else tree.body
            for node in rest:
                self.assertIsInstance(node, (ast.ImportFrom, ast.FunctionDef, ast.ClassDef, ast.Assign), name)
                for inner in ast.walk(node):
                    if isinstance(inner, ast.stmt):
                        self.assertIsInstance(inner, STATEMENTS, f"{name}:{inner.lineno}")
                    if isinstance(inner, ast.Expr):
                        self.assertIsInstance(inner.value, ast.Call, f"{name}:{inner.lineno}")
        for where, node in self.each_node(ast.Assign):
            self.assertEqual(len(node.targets), 1, where)
        for where, node in self.each_node(ast.For, ast.While):
            self.assertEqual(node.orelse, [], where)
        for where, node in self.each_node(ast.Try):
            self.assertEqual(node.finalbody, [], where)

    def test_expressions(self):
        for where, node in self.each_node(ast.expr):
            self.assertIsInstance(node, EXPRESSIONS, where)
        for where, node in self.each_node(ast.Constant):
            self.assertIsInstance(node.value, (int, str, type(None)), where)
            self.assertNotIn("%", str(node.value), where)
        for where, node in self.each_node(ast.BinOp, ast.AugAssign):
            self.assertNotIsInstance(node.op, (ast.Div, ast.MatMult), where)
            if isinstance(node.op, ast.Pow):
                exponent = node.right if isinstance(node, ast.BinOp) else node.value
                self.assertIn(getattr(exponent, "value", None), range(65), where)
        for where, node in self.each_node(ast.ListComp):
            self.assertEqual(len(node.generators), 1, where)
            self.assertLessEqual(len(node.generators[0].ifs), 1, where)
        for where, node in self.each_node(ast.Compare):
            for op, right in zip(node.ops, node.comparators):
                if isinstance(op, (ast.Is, ast.IsNot)):
                    self.assertIn(getattr(right, "value", 0), (None, True, False), where)

    def test_functions_and_classes(self):
        for where, node in self.each_node(ast.FunctionDef):
            self.assertEqual(node.decorator_list, [], where)
            handed = node.args
            self.assertEqual((handed.vararg, handed.kwarg, handed.kwonlyargs), (None, None, []), where)
        own = [node.name for where, node in self.each_node(ast.ClassDef)]
        for where, node in self.each_node(ast.ClassDef):
            self.assertEqual((node.decorator_list, node.keywords), ([], []), where)
            self.assertLessEqual(len(node.bases), 1, where)
            self.assertTrue(all(base.id in own or base.id in ERROR_NAMES for base in node.bases), where)
            self.assertTrue(all(isinstance(part, (ast.FunctionDef, ast.Pass)) for part in node.body), where)

    def test_names(self):
        for name, tree in self.trees.items():
            drawn = [alias.name for node in drawn_in(tree) for alias in node.names]
            bound = bound_in(tree)
            for word in set(bound) - UNDERSCORED:
                self.assertRegex(word, r"^[A-Za-z][A-Za-z0-9_]*$", name)
                self.assertNotIn(word, NAMES_NOWHERE, name)
            methods = [part.name for node in ast.walk(tree) if isinstance(node, ast.ClassDef) for part in node.body
                       if isinstance(part, ast.FunctionDef)]
            for word in set(bound) - set(methods):
                self.assertNotIn(word, dir(builtins), name)
                self.assertNotIn(word, drawn, name)
            top = bound_at_top(tree) + drawn
            self.assertEqual(len(top), len(set(top)), name)
            for node in ast.walk(tree):
                if isinstance(node, ast.Name):
                    self.assertIn(node.id, OWN_NAMES | set(bound) | set(drawn), f"{name}:{node.lineno}")

    def test_methods(self):
        own = {node.name for where, node in self.each_node(ast.FunctionDef)}
        for where, node in self.each_node(ast.Call):
            if isinstance(node.func, ast.Attribute):
                self.assertIn(node.func.attr, METHODS | own | UNDERSCORED, where)

    def test_each_local_is_no_class_of_its_file(self):
        for name, tree in self.trees.items():
            classes = [node.name for node in ast.walk(tree) if isinstance(node, ast.ClassDef)]
            bound = bound_in(tree)
            for word in classes:
                self.assertEqual(bound.count(word), 1, f"{name}: {word}")

    def test_what_a_file_keeps_at_its_top(self):
        for name, tree in self.trees.items():
            for node in tree.body:
                if isinstance(node, ast.Assign):
                    for inner in ast.walk(node.value):
                        self.assertIsInstance(inner, (ast.Constant, ast.Tuple, ast.List, ast.Dict, ast.Load), name)
                        if inner is not node.value:
                            self.assertNotIsInstance(inner, (ast.List, ast.Dict), name)

    def test_methods_and_values(self):
        methods = [part.name for where, node in self.each_node(ast.ClassDef) for part in node.body
                   if isinstance(part, ast.FunctionDef)]
        for where, node in self.each_node(ast.Attribute):
            if isinstance(node.ctx, ast.Store):
                self.assertNotIn(node.attr, methods, where)
                self.assertNotIn(node.attr, NOT_VALUE_NAMES, where)
        for where, node in self.each_node(ast.ClassDef):
            own = [part.name for part in node.body if isinstance(part, ast.FunctionDef)]
            self.assertEqual(len(own), len(set(own)), where)

    def test_keywords(self):
        for where, node in self.each_node(ast.Call):
            for keyword in node.keywords:
                self.assertIn(keyword.arg, KEYWORDS.get(called_name(node), ()), where)

    def test_python_s_own_are_called_and_walked_on_the_spot(self):
        for name, tree in self.trees.items():
            parents = {inner: node for node in ast.walk(tree) for inner in ast.iter_child_nodes(node)}
            for node in parents:
                where = f"{name}:{getattr(node, 'lineno', 0)}"
                if isinstance(node, ast.Name) and node.id in OWN_NAMES and node.id[0].islower():
                    parent = parents[node]
                    asked = isinstance(parent, ast.Call) and (parent.func is node or called_name(parent) == "isinstance")
                    self.assertTrue(asked or isinstance(parent, ast.keyword), where)
                if is_walk(node):
                    self.assertTrue(stands_in_a_walk(parents[node], node), where)
                if called_name(node) == "set":
                    self.assertTrue(stands_as_a_set(parents, node), where)
                self.assertNotIsInstance(node, ast.Set, where)
                self.assertNotEqual(called_name(node), "frozenset", where)

    def test_what_is_walked_is_not_changed(self):
        for where, node in self.each_node(ast.For):
            walked = {inner.id for inner in ast.walk(node.iter) if isinstance(inner, ast.Name)}
            for inner in (inner for part in node.body for inner in ast.walk(part)):
                if isinstance(inner, ast.Call) and isinstance(inner.func, ast.Attribute):
                    if inner.func.attr in ("append", "extend", "insert", "pop", "remove", "clear", "update"):
                        self.assertNotIn(getattr(inner.func.value, "id", None), walked, where)

    def test_errors(self):
        for where, node in self.each_node(ast.Raise):
            self.assertIsInstance(node.exc, ast.Call, where)
        for where, node in self.each_node(ast.ExceptHandler):
            self.assertIsInstance(node.type, ast.Name, where)
            self.assertNotIn(node.type.id, ("Exception", "TypeError", "ValueError"), where)

    def test_what_init_gives_back(self):
        for where, node in self.each_node(ast.FunctionDef):
            if node.name == "__init__":
                self.assertFalse([inner for inner in ast.walk(node) if isinstance(inner, ast.Return)], where)

    def test_words_that_stand_nowhere(self):
        for name, text in self.texts.items():
            self.assertIsNone(WORDS_NOWHERE.search(text), name)


if __name__ == "__main__":
    unittest.main()
