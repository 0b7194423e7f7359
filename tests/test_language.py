"""The files of the package keep to the small language that the project is written in."""

import ast
import builtins
import os
import unittest

import ownmarks

FOLDER = os.path.dirname(os.path.abspath(ownmarks.__file__))
LIBRARY = {"math": {"gcd", "lcm"}}
BUILTINS = set("""len range enumerate zip min max sum abs sorted reversed int str bool list tuple dict set isinstance
    ord repr any all divmod iter next ValueError TypeError KeyError IndexError LookupError OverflowError""".split())
METHODS = set("""append clear copy count endswith extend find get index insert isalnum isalpha isdigit items join keys
    lower pop remove replace reverse setdefault split splitlines startswith strip update values bit_length""".split())
DOUBLE = set("""__init__ __eq__ __len__ __call__ __iter__ __contains__ __getitem__ __or__ __and__
    __setitem__ __enter__ __exit__""".split())
NODES = set("""Module Expr Constant ImportFrom alias FunctionDef ClassDef arguments arg Return Assign Name Load Store Call
    keyword Attribute Subscript Slice Tuple List Dict If IfExp For While Raise BoolOp And Or UnaryOp Not USub BinOp Add
    Sub Mult FloorDiv Mod BitOr BitAnd LShift Compare Eq NotEq Lt LtE Gt GtE In NotIn Is IsNot ListComp DictComp comprehension Lambda Yield
    Pass Break Continue AugAssign SetComp Starred
    Try ExceptHandler""".split())
BARRED = set("""register mro elements open input law type typing enum Enum Flag Generic Protocol ABC dataclass overload
    attrgetter compile dir eval exec exit gc getattr globals hasattr help id importlib locals os quit setattr super sys
    vars map format args""".split())


def package_files():
    found = []
    for name in sorted(os.listdir(FOLDER)):
        if name != "__pycache__":
            with open(os.path.join(FOLDER, name), "rb") as file:
                found.append((name, file.read()))
    return found


def own_names(trees):
    found = set()
    for tree in trees.values():
        for node in ast.walk(tree):
            if isinstance(node, (ast.FunctionDef, ast.ClassDef)):
                found.add(node.name)
    return found


def called(node):
    """The name of what is called, "" if it is no plain name."""
    return node.func.id if isinstance(node, ast.Call) and isinstance(node.func, ast.Name) else ""


def wrong_reversed(tree):
    """The lines where reversed goes over what an object with [ ] may be."""
    found = []
    for node in ast.walk(tree):
        if called(node) == "reversed":
            plain = isinstance(node.args[0], (ast.List, ast.Tuple, ast.Constant))
            if not plain and called(node.args[0]) not in ("list", "tuple", "sorted", "range"):
                found.append(node.lineno)
    return found


class LanguageTest(unittest.TestCase):
    @classmethod
    def setUpClass(cls):
        cls.files = dict(package_files())
        cls.trees = {name: ast.parse(data) for name, data in cls.files.items()}
        cls.own = own_names(cls.trees)

    def nodes(self, *kinds):
        for name, tree in self.trees.items():
            for node in ast.walk(tree):
                if not kinds or isinstance(node, kinds):
                    yield f"{name}:{getattr(node, 'lineno', 0)}", node

    def test_files_and_lines(self):
        self.assertIn("__init__.py", self.files)
        for name, data in self.files.items():
            self.assertRegex(name, r"^(__init__|[a-z0-9_]+)\.py$")
            lines = data.decode("ascii").split("\n")
            self.assertLessEqual(len(lines), 399, name)
            for number, line in enumerate(lines, 1):
                self.assertLessEqual(len(line), 120, f"{name}:{number}")
                self.assertTrue(all(" " <= sign <= "~" for sign in line), f"{name}:{number}")

    def test_sizes_of_functions(self):
        for where, node in self.nodes(ast.FunctionDef):
            self.assertLessEqual(node.end_lineno - node.lineno + 1, 40, where)

    def test_kinds_of_code(self):
        for where, node in self.nodes():
            self.assertIn(type(node).__name__, NODES, where)

    def test_module_level(self):
        for name, tree in self.trees.items():
            for node in tree.body:
                self.assertIn(type(node).__name__, ["Expr", "ImportFrom", "FunctionDef", "ClassDef", "Assign"], name)
            self.assertTrue(ast.get_docstring(tree), name)

    def test_imports(self):
        for where, node in self.nodes(ast.ImportFrom):
            self.assertEqual(node.level, 0, where)
            for alias in node.names:
                self.assertIsNone(alias.asname, where)
                if node.module in LIBRARY:
                    self.assertIn(alias.name, LIBRARY[node.module], where)
                    continue
                folder, file = node.module.split(".")
                self.assertEqual(folder, "ownmarks", where)
                tops = [getattr(top, "name", None) for top in self.trees[file + ".py"].body]
                values = [top.targets[0].id for top in self.trees[file + ".py"].body if isinstance(top, ast.Assign)]
                self.assertIn(alias.name, tops + values, where)

    def test_names(self):
        for where, node in self.nodes(ast.Name, ast.arg, ast.FunctionDef, ast.Attribute, ast.ClassDef):
            name = getattr(node, "id", None) or getattr(node, "arg", None) or getattr(node, "name", None) or node.attr
            self.assertNotIn(name, BARRED, where)
            if name[:2] == "__":
                self.assertIn(name, DOUBLE, where)
            elif isinstance(node, ast.Name) and isinstance(node.ctx, ast.Load):
                if hasattr(builtins, name) and name not in ("property", "staticmethod"):
                    self.assertIn(name, BUILTINS, where)
            elif not isinstance(node, ast.Attribute):
                self.assertFalse(hasattr(builtins, name), where)

    def test_no_local_name_hides_another_one(self):
        for name, tree in self.trees.items():
            tops = {alias.name for node in tree.body if isinstance(node, ast.ImportFrom) for alias in node.names}
            tops |= {node.name for node in tree.body if isinstance(node, (ast.ClassDef, ast.FunctionDef))}
            bound = [node.targets[0].id for node in tree.body if isinstance(node, ast.Assign)]
            for node in ast.walk(tree):
                if isinstance(node, ast.arg):
                    self.assertNotIn(node.arg, tops, f"{name}:{node.lineno}")
                elif isinstance(node, ast.Name) and isinstance(node.ctx, ast.Store):
                    self.assertNotIn(node.id, tops, f"{name}:{node.lineno}")
            self.assertEqual(len(bound), len(set(bound)), name)

    def test_methods_that_are_called(self):
        for where, node in self.nodes(ast.Call):
            if isinstance(node.func, ast.Attribute):
                self.assertIn(node.func.attr, METHODS | self.own, where)

    def test_generators(self):
        folding = ("any", "all", "min", "max", "sum", "sorted", "list", "tuple", "dict")
        yielding = [node for _, node in self.nodes(ast.FunctionDef)
                    if any(isinstance(part, ast.Yield) for part in ast.walk(node))]
        self.assertEqual(len({node.name for node in yielding}), len(yielding))
        for where, node in self.nodes(ast.Call):
            if isinstance(node.func, ast.Name) and node.func.id in folding:
                self.assertFalse(any(isinstance(part, ast.GeneratorExp) for part in node.args), where)

    def test_decorators(self):
        for where, node in self.nodes(ast.FunctionDef, ast.ClassDef):
            for decorator in node.decorator_list:
                self.assertIn(getattr(decorator, "id", ""), ("property", "staticmethod"), where)

    def test_only_own_errors_are_caught(self):
        for where, node in self.nodes(ast.Try):
            self.assertEqual((node.orelse, node.finalbody, len(node.body)), ([], [], 1), where)
            for handler in node.handlers:
                self.assertIn(handler.type.id, self.own, where)

    def test_is(self):
        for where, node in self.nodes(ast.Compare):
            for sign, right in zip(node.ops, node.comparators):
                if isinstance(sign, (ast.Is, ast.IsNot)):
                    self.assertIsInstance(right, ast.Constant, where)
                    self.assertIn(right.value, (None, True, False), where)

    def test_views_stand_where_they_are_iterated(self):
        for where, node in self.nodes(ast.Assign, ast.Return):
            value = node.value
            if isinstance(value, ast.Call):
                called = getattr(value.func, "id", None) or getattr(value.func, "attr", None)
                self.assertNotIn(called, ("zip", "enumerate", "reversed", "items", "values", "keys"), where)

    def test_reversed(self):
        for name, tree in self.trees.items():
            self.assertEqual(wrong_reversed(tree), [], name)
        wrong = ["reversed(members)", "enumerate(reversed(members))", "reversed(page.rows)", "reversed(rows[1:])", "reversed(zip(a, b))",
                 "reversed([one for one in rows])", "reversed(rows())"]
        for row in wrong:
            self.assertEqual(wrong_reversed(ast.parse(f"def told(members):\n    return list({row})")), [2], row)
        for row in ["list(rows)", "tuple(rows)", "sorted(rows)", "range(3)", "[1, 2]", "(1, 2)", "'ab'"]:
            self.assertEqual(wrong_reversed(ast.parse(f"def told(rows):\n    return list(reversed({row}))")), [], row)

    def test_sets_stand_where_they_are_measured(self):
        def is_set(node):
            return isinstance(node, ast.SetComp) or isinstance(node, ast.Call) and getattr(node.func, "id", "") == "set"

        measured = [part for _, node in self.nodes(ast.Call) if getattr(node.func, "id", "") in ("len", "sorted")
                    for part in node.args]
        for where, node in self.nodes():
            if is_set(node):
                self.assertIn(node, measured, where)

    def test_constants(self):
        for where, node in self.nodes(ast.Constant):
            self.assertIsInstance(node.value, (int, str, type(None)), where)
            if isinstance(node.value, str):
                self.assertNotIn("%", node.value, where)


if __name__ == "__main__":
    unittest.main()
