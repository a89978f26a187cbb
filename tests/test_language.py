"""The package's files keep to the small part of Python that ../shared/LANGUAGE.md tells."""

import ast
import builtins
import os
import re
import unittest

PACKAGE = os.path.join(os.path.dirname(os.path.dirname(os.path.abspath(__file__))), "askwright")
STATEMENTS = (ast.Assign, ast.AugAssign, ast.If, ast.While, ast.For, ast.Return, ast.Break, ast.Continue, ast.Pass,
              ast.Raise, ast.Try, ast.Expr, ast.FunctionDef, ast.ClassDef, ast.ImportFrom)
EXPRESSIONS = (ast.Constant, ast.Name, ast.List, ast.Tuple, ast.Dict, ast.Set, ast.BinOp, ast.UnaryOp, ast.Compare,
               ast.BoolOp, ast.IfExp, ast.Call, ast.Attribute, ast.Subscript, ast.Slice, ast.ListComp, ast.JoinedStr,
               ast.FormattedValue, ast.Lambda)
OWN_NAMES = set("""len range enumerate zip min max sum abs sorted reversed int str bool list tuple dict set frozenset
    isinstance ord repr any all divmod Exception ValueError TypeError KeyError IndexError LookupError
    ZeroDivisionError ArithmeticError OverflowError RuntimeError NotImplementedError AttributeError
    StopIteration""".split())
METHODS = set("""append clear copy count endswith extend find get index insert isalnum isalpha isdigit islower isspace
    isupper items join keys ljust lower lstrip partition pop remove replace reverse rfind rjust rpartition rsplit rstrip
    setdefault split splitlines startswith strip update upper values zfill bit_length""".split())
BANNED_WORDS = """type typing typing_extensions enum Enum IntEnum StrEnum Flag IntFlag Generic Protocol ABC ABCMeta
    namedtuple NamedTuple TypedDict TYPE_CHECKING abstractmethod""".split()
FREE_VALUES = set("count index title find get join lower upper split strip copy add".split())
SPECIAL = ("__init__", "__eq__", "__repr__", "__str__", "__len__")
WALKED = ("zip", "enumerate", "reversed", "range")


def package_files():
    return sorted(name for name in os.listdir(PACKAGE) if name != "__pycache__")


def text_of(name):
    with open(os.path.join(PACKAGE, name), encoding="ascii") as file:
        return file.read()


def own_kinds(name):
    return [node for node in ast.parse(text_of(name)).body if isinstance(node, ast.ClassDef)]


def bound_names(tree):
    for node in ast.walk(tree):
        if isinstance(node, ast.arg):
            yield node.arg
        elif isinstance(node, ast.Name) and isinstance(node.ctx, ast.Store):
            yield node.id
        elif isinstance(node, ast.Attribute):
            yield node.attr
        elif isinstance(node, (ast.FunctionDef, ast.ClassDef)):
            yield node.name


class Language(unittest.TestCase):
    def each_file(self):
        for name in package_files():
            yield name, text_of(name), ast.parse(text_of(name))

    def test_files(self):
        self.assertIn("__init__.py", package_files())
        for name in package_files():
            self.assertRegex(name, r"^(__init__|__main__|[a-z][a-z0-9_]*)\.py$")

    def test_signs_and_sizes(self):
        for name, text, tree in self.each_file():
            lines = text.split("\n")
            self.assertLessEqual(len(lines), 400, name)
            for number, line in enumerate(lines, 1):
                self.assertLessEqual(len(line), 120, (name, number))
                self.assertIsNone(re.search(r"[^ -~]", line), (name, number))
            for word in BANNED_WORDS:
                self.assertIsNone(re.search(rf"\b{word}\b", text), (name, word))
            self.assertIsNone(re.search("dataclass|overload|contextmanager", text), name)

    def test_the_top_of_a_file(self):
        for name, text, tree in self.each_file():
            self.assertTrue(ast.get_docstring(tree), name)
            names = []
            for node in tree.body[1:]:
                self.assertIsInstance(node, (ast.ImportFrom, ast.FunctionDef, ast.ClassDef, ast.Assign), name)
                if isinstance(node, ast.ImportFrom):
                    names += [alias.name for alias in node.names]
                    self.assertTrue(node.module.startswith("askwright."), name)
                    self.assertEqual(node.level, 0, name)
                elif isinstance(node, ast.Assign):
                    names.append(node.targets[0].id)
                else:
                    names.append(node.name)
            self.assertEqual(len(names), len(set(names)), name)

    def test_imports_make_no_ring(self):
        drawn = {}
        for name, text, tree in self.each_file():
            drawn[name[:-3]] = [node.module.split(".")[1] for node in tree.body if isinstance(node, ast.ImportFrom)]
        left = dict(drawn)
        while left:
            free = [name for name in left if not any(other in left for other in left[name])]
            self.assertTrue(free, sorted(left))
            for name in free:
                left.pop(name)

    def test_statements_and_expressions(self):
        for name, text, tree in self.each_file():
            for node in list(ast.walk(tree))[1:]:
                where = (name, getattr(node, "lineno", None), ast.dump(node)[:60])
                if isinstance(node, ast.stmt):
                    self.assertIsInstance(node, STATEMENTS, where)
                if isinstance(node, ast.expr):
                    self.assertIsInstance(node, EXPRESSIONS, where)
                self.check_node(node, where)

    def check_node(self, node, where):
        if isinstance(node, ast.Assign):
            self.assertEqual(len(node.targets), 1, where)
            self.assertNotIsInstance(node.targets[0], (ast.Tuple, ast.List), where)
        if isinstance(node, (ast.For, ast.While)):
            self.assertEqual(node.orelse, [], where)
        if isinstance(node, ast.Try):
            self.assertEqual(node.finalbody, [], where)
        if isinstance(node, ast.BinOp):
            self.assertNotIsInstance(node.op, (ast.Div, ast.MatMult), where)
        if isinstance(node, ast.Constant):
            self.assertNotIsInstance(node.value, (float, complex, bytes), where)
            self.assertNotIn("%", str(node.value), where)
        if isinstance(node, ast.FormattedValue):
            self.assertIsInstance(node.value, ast.Name, where)
        if isinstance(node, ast.ListComp):
            self.assertEqual(len(node.generators), 1, where)
            self.assertLessEqual(len(node.generators[0].ifs), 1, where)
        if isinstance(node, ast.Compare):
            self.check_compare(node, where)

    def check_compare(self, node, where):
        for operator, right in zip(node.ops, node.comparators):
            if isinstance(operator, (ast.Is, ast.IsNot)):
                self.assertIsInstance(right, ast.Constant, where)
                self.assertIn(right.value, (None, True, False), where)

    def test_functions(self):
        for name, text, tree in self.each_file():
            for node in ast.walk(tree):
                if isinstance(node, ast.FunctionDef):
                    self.check_function(node, (name, node.name))

    def check_function(self, node, where):
        self.assertLessEqual(node.end_lineno - node.lineno + 1, 40, where)
        self.assertEqual(node.decorator_list, [], where)
        rest = node.args
        self.assertEqual((rest.vararg, rest.kwarg, rest.kwonlyargs, rest.posonlyargs), (None, None, [], []), where)
        for inner in node.body:
            if isinstance(inner, ast.Expr):
                self.assertIsInstance(inner.value, ast.Call, where)

    def test_classes(self):
        for name in package_files():
            for node in own_kinds(name):
                self.assertLessEqual(len(node.bases), 1, node.name)
                self.assertEqual(node.decorator_list, [], node.name)
                for inner in node.body:
                    self.assertIsInstance(inner, (ast.FunctionDef, ast.Pass), node.name)

    def test_names(self):
        for name, text, tree in self.each_file():
            bound = set(bound_names(tree))
            for word in bound:
                if word not in SPECIAL:
                    self.assertRegex(word, r"^[A-Za-z][A-Za-z0-9_]*$", name)
            for node in ast.walk(tree):
                if isinstance(node, ast.Name) and hasattr(builtins, node.id):
                    self.assertIn(node.id, OWN_NAMES, (name, node.lineno))
                    self.assertIsInstance(node.ctx, ast.Load, (name, node.lineno))
                if isinstance(node, ast.arg):
                    self.assertFalse(hasattr(builtins, node.arg), (name, node.arg))

    def test_no_local_is_called_like_a_class_or_an_import(self):
        for name, text, tree in self.each_file():
            taken = [node.name for node in tree.body if isinstance(node, (ast.ClassDef, ast.FunctionDef))]
            for node in tree.body:
                if isinstance(node, ast.ImportFrom):
                    taken += [alias.name for alias in node.names]
            for node in ast.walk(tree):
                if isinstance(node, ast.arg):
                    self.assertNotIn(node.arg, taken, name)
                if isinstance(node, ast.Name) and isinstance(node.ctx, ast.Store):
                    self.assertNotIn(node.id, taken, (name, node.lineno))

    def test_methods_and_values_have_names_apart(self):
        methods = set()
        values = set()
        for name, text, tree in self.each_file():
            for kind in own_kinds(name):
                methods |= {inner.name for inner in kind.body if isinstance(inner, ast.FunctionDef)}
            values |= {node.attr for node in ast.walk(tree)
                       if isinstance(node, ast.Attribute) and isinstance(node.ctx, ast.Store)}
        self.assertEqual(methods & values, set())
        taken = set().union(*[dir(kind) for kind in (str, int, list, tuple, dict, set, bytes)])
        self.assertEqual(methods & taken - METHODS - set(SPECIAL) - {"add", "discard"}, set())
        self.assertEqual(values & taken - FREE_VALUES, set())
        self.check_called_methods(methods)

    def check_called_methods(self, methods):
        for name, text, tree in self.each_file():
            for node in ast.walk(tree):
                if isinstance(node, ast.Call) and isinstance(node.func, ast.Attribute):
                    self.assertIn(node.func.attr, METHODS | methods, (name, node.lineno))

    def test_walked_at_once(self):
        for name, text, tree in self.each_file():
            for node in ast.walk(tree):
                if isinstance(node, ast.Assign) and isinstance(node.value, ast.Call):
                    called = node.value.func
                    self.assertNotIn(getattr(called, "id", getattr(called, "attr", "")),
                                     WALKED + ("items", "keys", "values", "set"), (name, node.lineno))


if __name__ == "__main__":
    unittest.main()
