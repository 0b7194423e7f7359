"""The files of the package keep to the small language that the project is written in."""

import ast
import os
import unittest

import ownmarks
from tests import language

FOLDER = os.path.dirname(os.path.abspath(ownmarks.__file__))

# For each look, rows that it must find: each sample has the row that is wrong last, or alone.
WRONG = {
    "kinds": ["x = lambda a: a", "def f(a):\n    return a ** 2", "def f(a):\n    return a / 2", "import math", "def f(a):\n    global b",
              "def f(a):\n    return (one for one in a)", "def f(a):\n    assert a", "def f(a: int = 1):\n    b: int = 1", "def f(a):\n    del a[0]"],
    "module_level": ["f(1)", "A = [1, 2]", "A = B = 1", "A = (1, [2])", "A = {1: {2: 3}}", "A = len((1,))", "for a in (1,):\n    pass", "A = 1 + 2"],
    "sizes": ["def f(a):\n" + "    a = 1\n" * 40],
    "names": ["def f(a):\n    return hash(a)", "def f(id):\n    return id", "def f(a):\n    min = a", "def f(a):\n    return a.__class__",
              "def __odd(a):\n    return a", "def f(a):\n    return a.mro", "def f(a):\n    return a(open=1)", "def f(a):\n    return bytes(a)",
              "def f(a):\n    return map(f, a)"],
    "bindings": ["def f(f):\n    return f", "A = 1\nA = 2", "def f(a):\n    f = a", "from ownmarks.crowds import Crowd\ndef f(a):\n    Crowd = a",
                 "def f(a):\n    return [f for f in a]"],
    "library": ["from math import gcd\nA = gcd", "from math import lcm\ndef f(a):\n    return f(lcm)",
                "from math import comb\ndef f(a):\n    return comb(a, k=1)"],
    "decorators": ["@f\ndef g(a):\n    return a", "class A:\n    @classmethod\n    def f(cls):\n        return 1", "@f\nclass A:\n    pass",
                   "class A:\n    @cut.setter\n    def cut(self, a):\n        pass"],
    "methods_that_change": ["class A:\n    def __len__(self):\n        self.n = 1", "class A:\n    def __eq__(self, o):\n        self.rows.append(1)",
                            "class A:\n    def __or__(self, o):\n        o[1] = 2", "class A:\n    @property\n    def a(self):\n        self.n += 1"],
    "ends_of_methods": ["class A:\n    def __init__(self):\n        return None", "class A:\n    def __len__(self):\n        return self.n"],
    "leaving": ["class A:\n    def __exit__(self, kind, value, trace):\n        self.a.clear()",
                "class A:\n    def __exit__(self, kind, value, trace):\n        if value:\n            pass",
                "class A:\n    def __exit__(self, kind, value, trace):\n        self.a = list(self.b)"],
    "wrong_super": ["class A(B):\n    def f(self):\n        return super().f()", "def f():\n    return super()"],
    "identities": ["def f(a, b):\n    return a is b", "def f(a, b):\n    return a is not 1"],
    "keywords": ["def f(a):\n    return int(a, base=2)", "def f(a):\n    return max(1, 2, default=a)", "def f(a):\n    return zip(a, strict=True)"],
    "kept_views": ["def f(a):\n    return zip(a)", "def f(a):\n    b = a.items()", "def f(a):\n    return len(a.keys())", "def f(a):\n    g(enumerate(a))",
                   "def f(a):\n    return set(a.values())", "def f(a):\n    return reversed(a)"],
    "wrong_reversed": ["def f(a):\n    return list(reversed(a))", "def f(a):\n    return [b for b in enumerate(reversed(a))]",
                       "def f(a):\n    return list(reversed(a.rows))", "def f(a):\n    return list(reversed(a[1:]))",
                       "def f(a):\n    return list(reversed(zip(a, a)))", "def f(a):\n    return list(reversed([b for b in a]))",
                       "def f(a):\n    return list(reversed(g(a)))"],
    "generators": ["def f(a):\n    return any(b for b in a)", "def f(a):\n    return sum((b for b in a))"],
    "wrong_sets": ["def f(a):\n    b = set(a)", "def f(a):\n    return {b for b in a}", "def f(a):\n    return [b for b in set(a)]",
                   "def f(a):\n    return {1, a}", "def f(a):\n    return sorted(set(a), key=f)"],
    "changed_in_loops": ["def f(a):\n    for b in a:\n        a.append(b)", "def f(a):\n    for at, b in enumerate(a):\n        a[at] = b",
                         "def f(a):\n    for b in a.rows:\n        a.rows.pop()", "def f(a):\n    for b in a:\n        a += [b]",
                         # What is walked gets the name of what was changed, or the other way round, by a field or a choice.
                         "def f(a):\n    while a:\n        b = []\n        for c in a:\n            b.append(c)\n        a = b",
                         "def f(a):\n    b = a\n    for c in b:\n        a[c] = 1", "def f(a):\n    b = a.rows\n    for c in b:\n        a.rows.clear()",
                         "def f(a):\n    b = a.rows\n    for c in a.rows:\n        b.append(c)", "def f(a, b):\n    c = a if b else []\n    for d in c:\n        a.pop()",
                         "def f(a, b):\n    c = b or a\n    for d in enumerate(c):\n        a += [d]", "def f(a):\n    b, c = [], a\n    for d in c:\n        a.append(d)",
                         "def f(a):\n    b = c = a[0]\n    for d in c:\n        a[0].append(d)", "def f(a):\n    b = a\n    c = b\n    for d in c:\n        a.append(d)"],
    "comprehended_names": ["def f(a):\n    return [[b for b in a] for b in a]"],
    "wrong_f_strings": ["def f(a):\n    return f'{a:>3}'", "def f(a):\n    return f'{a!r}'", "def f(a):\n    return f\"{a['b']}\""],
    "constants": ["A = 1.5", "A = b'a'", "def f(a):\n    return a == 1j"],
    "defaults": ["def f(a=[]):\n    return a", "def f(*a):\n    return a", "def f(**a):\n    return a", "def f(a):\n    def g():\n        pass"],
    "classes_with_items": ["class A:\n    def __getitem__(self, at):\n        return at"],
}


def package_files():
    found = []
    for name in sorted(os.listdir(FOLDER)):
        if name != "__pycache__":
            with open(os.path.join(FOLDER, name), "rb") as file:
                found.append((name, file.read()))
    return found


class LanguageTest(unittest.TestCase):
    @classmethod
    def setUpClass(cls):
        cls.files = dict(package_files())
        cls.trees = {name: ast.parse(data) for name, data in cls.files.items()}
        cls.classes = {node.name for tree in cls.trees.values() for node in ast.walk(tree) if isinstance(node, ast.ClassDef)}
        cls.own = {node.name for tree in cls.trees.values() for node in ast.walk(tree) if isinstance(node, ast.FunctionDef)}

    def test_files_and_lines(self):
        self.assertIn("__init__.py", self.files)
        for name, data in self.files.items():
            self.assertRegex(name, r"^(__init__|[a-z0-9_]+)\.py$")
            lines = data.decode("ascii").split("\n")
            self.assertLessEqual(len(lines), 399, name)
            self.assertTrue(ast.get_docstring(self.trees[name]), name)
            for number, line in enumerate(lines, 1):
                self.assertLessEqual(len(line), 120, f"{name}:{number}")
                self.assertTrue(all(" " <= sign <= "~" for sign in line), f"{name}:{number}")

    def test_looks(self):
        for look in language.LOOKS:
            for name, tree in self.trees.items():
                self.assertEqual(look(tree), [], f"{name}: {look.__name__}")

    def test_each_look_finds_what_is_wrong(self):
        self.assertEqual(set(WRONG), {look.__name__ for look in language.LOOKS})
        for look in language.LOOKS:
            for text in WRONG[look.__name__]:
                self.assertNotEqual(look(ast.parse(text)), [], text)

    def test_what_reversed_may_go_over(self):
        for row in ["list(rows)", "tuple(rows)", "sorted(rows)", "range(3)", "[1, 2]", "(1, 2)", "'ab'"]:
            self.assertEqual(language.wrong_reversed(ast.parse(f"def told(rows):\n    return list(reversed({row}))")), [], row)

    def test_what_may_be_changed_in_a_loop(self):
        # A copy of what is walked, another list, and what another function calls so.
        for text in ["def f(a):\n    while a:\n        b = []\n        for c in a:\n            b.append(c)\n        a = list(b)",
                     "def f(a):\n    for b in list(a):\n        c = [b]\n        c.append(b)", "def f(a):\n    b = a[:]\n    for c in b:\n        a.append(c)",
                     "def f(a):\n    b = a\n    for c in b:\n        pass\n\ndef g(a, b):\n    for c in b:\n        a.append(c)",
                     "def f(a):\n    b, c = a, []\n    for d in b:\n        c.append(d)"]:
            self.assertEqual(language.changed_in_loops(ast.parse(text)), [], text)

    def test_words(self):
        for name, data in self.files.items():
            self.assertEqual(language.barred_words(data.decode("ascii")), [], name)
        for text in ["A = 'type'", "A = 'so __odd__'", "A = '5 %'", "A = 'enum a'", "A = 'a._'"]:
            self.assertNotEqual(language.barred_words(text), [], text)

    def test_methods_that_are_called(self):
        for name, tree in self.trees.items():
            self.assertEqual(language.methods(tree, self.own | {"__init__"}), [], name)
        for text in ["def f(a):\n    return a.sort()", "def f(a):\n    return a.split(sep='b')", "def f(a):\n    return a.title()"]:
            self.assertNotEqual(language.methods(ast.parse(text)), [], text)

    def test_errors(self):
        for name, tree in self.trees.items():
            self.assertEqual(language.catching(tree, self.classes), [], name)
        for row in ["except ValueError:\n        pass", "except (A, KeyError):\n        pass", "except A as e:\n        return str(e)",
                    "except A:\n        raise f(1)", "finally:\n        pass"]:
            self.assertNotEqual(language.catching(ast.parse(f"def f(a):\n    try:\n        a()\n    {row}"), {"A"}), [], row)

    def test_imports(self):
        for name, tree in self.trees.items():
            for node in ast.walk(tree):
                if isinstance(node, ast.ImportFrom):
                    self.assertEqual(node.level, 0, name)
                    for alias in node.names:
                        self.assertIsNone(alias.asname, name)
                        self.assertIn(alias.name, language.LIBRARY.get(node.module) or self.bound_in(node.module), name)

    def bound_in(self, module):
        """What is defined in the very file of a module of the package."""
        folder, file = module.split(".")
        self.assertEqual(folder, "ownmarks")
        body = self.trees[file + ".py"].body
        named = [top.name for top in body if isinstance(top, (ast.FunctionDef, ast.ClassDef))]
        return named + [top.targets[0].id for top in body if isinstance(top, ast.Assign)]

    def test_no_rings_of_imports(self):
        aims = {name[:-3]: [node.module.split(".")[1] for node in tree.body if isinstance(node, ast.ImportFrom) and node.module not in language.LIBRARY]
                for name, tree in self.trees.items()}
        left = dict(aims)
        while left:
            ready = [name for name, needed in left.items() if not set(needed) & set(left)]
            self.assertTrue(ready, left)
            for name in ready:
                del left[name]

    def test_imports_are_used(self):
        for name, tree in self.trees.items():
            used = {node.id for node in ast.walk(tree) if isinstance(node, ast.Name)}
            for node in tree.body:
                if isinstance(node, ast.ImportFrom):
                    self.assertEqual([alias.name for alias in node.names if alias.name not in used], [], name)

    def test_names_of_generators_stand_for_nothing_else(self):
        yielding = [node.name for tree in self.trees.values() for node in language.functions(tree) if language.walked(node, ast.Yield)]
        every = [node.name for tree in self.trees.values() for node in language.functions(tree)]
        self.assertEqual([name for name in yielding if every.count(name) > 1], [])

    def test_methods_and_attributes_have_unlike_names(self):
        # A property is assigned nowhere but in its setter; no method of any class has the name of an attribute.
        properties, others, attributes = set(), set(), set()
        for tree in self.trees.values():
            for owner in language.walked(tree, ast.ClassDef):
                for node in owner.body:
                    if isinstance(node, ast.FunctionDef):
                        (properties if any(getattr(one, "id", "") == "property" for one in node.decorator_list) else others).add(node.name)
            for node in language.walked(tree, ast.Attribute):
                if isinstance(node.ctx, ast.Store):
                    attributes.add(node.attr)
        self.assertEqual(properties & attributes, set())
        self.assertEqual((others - {"cut"}) & (attributes | properties), set())

    def test_attributes_that_are_read_are_assigned(self):
        assigned = {node.attr for tree in self.trees.values() for node in language.walked(tree, ast.Attribute) if isinstance(node.ctx, ast.Store)}
        for name, tree in self.trees.items():
            for node in language.walked(tree, ast.Attribute):
                known = assigned | self.own | language.METHODS | {"__init__", "setter"}
                self.assertIn(node.attr, known, f"{name}:{node.lineno}")

    def test_classes_are_called_or_asked_for(self):
        for name, tree in self.trees.items():
            above = language.parents(tree)
            for node in language.walked(tree, ast.Name):
                if node.id in self.classes:
                    holder = above[node]
                    outer = above.get(holder)
                    told = isinstance(holder, ast.Call) and holder.func is node
                    asked = language.is_bare(holder, "isinstance") and holder.args[1] is node
                    base = isinstance(holder, ast.ClassDef)
                    caught = isinstance(holder, ast.ExceptHandler) or isinstance(outer, ast.ExceptHandler)
                    self.assertTrue(told or asked or base or caught, f"{name}:{node.lineno}")


if __name__ == "__main__":
    unittest.main()
