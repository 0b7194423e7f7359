"""Looks for rows of the package that LANGUAGE.md does not allow: each look is a function of a file's tree that tells lines.

A look is narrower than the rule where the project does with less: what it does not use is not let."""

import ast
import builtins
import re

LIBRARY = {"math": {"gcd", "lcm", "comb"}}
BUILTINS = set("""len range enumerate zip min max sum abs sorted reversed int str bool list tuple dict set isinstance
    ord repr any all divmod iter next super ValueError TypeError KeyError IndexError LookupError OverflowError""".split())
# An interpreter that shows values keeps the last one as _, which is no name of Python's own.
EVERY_BUILTIN = set(dir(builtins)) - {"_"}
METHODS = set("""append clear copy count endswith extend find get index insert isalnum isalpha isdigit items join keys
    lower pop remove replace reverse setdefault split splitlines startswith strip update values bit_length""".split())
CHANGING = set("append clear extend insert pop remove reverse setdefault update".split())
DOUBLE = set("""__init__ __eq__ __len__ __call__ __iter__ __contains__ __getitem__ __or__ __and__ __ior__
    __setitem__ __enter__ __exit__""".split())
# What changes nothing: operators but the in-place ones, and what only tells.
STILL = set("__eq__ __len__ __iter__ __contains__ __getitem__ __or__ __and__".split())
NODES = set("""Module Expr Constant ImportFrom alias FunctionDef ClassDef arguments arg Return Assign Name Load Store Call
    keyword Attribute Subscript Slice Tuple List Dict If IfExp For While Raise BoolOp And Or UnaryOp Not USub BinOp Add
    Sub Mult FloorDiv Mod BitOr BitAnd BitXor LShift RShift Compare Eq NotEq Lt LtE Gt GtE In NotIn Is IsNot ListComp DictComp SetComp
    comprehension Yield Pass Break Continue AugAssign Starred Try ExceptHandler JoinedStr FormattedValue""".split())
BARRED = set("""register mro elements open input law typing enum Enum IntEnum StrEnum Flag IntFlag Generic Protocol ABC ABCMeta
    NamedTuple namedtuple TypedDict dataclass overload contextmanager abstractmethod type version_info with_traceback add_note
    attrgetter breakpoint builtins compile copyright credits delattr dir eval exec exit gc getattr globals hasattr help id
    importlib license locals methodcaller os quit setattr sys vars map format args frozenset bytes""".split())
FOLDING = ("any", "all", "min", "max", "sum", "sorted", "list", "tuple", "dict")
VIEWS = ("zip", "enumerate", "reversed", "items", "values", "keys")
ITERATING = ("list", "tuple", "dict", "sorted", "sum", "any", "all", "enumerate", "zip", "min", "max")
PLACES = (ast.Name, ast.Attribute, ast.Subscript)
COMPREHENSIONS = (ast.ListComp, ast.SetComp, ast.DictComp)


def called(node):
    """The name of what is called, whether bare or of a method; "" if nothing is."""
    if not isinstance(node, ast.Call):
        return ""
    return node.func.id if isinstance(node.func, ast.Name) else getattr(node.func, "attr", "")


def is_bare(node, *names):
    return isinstance(node, ast.Call) and isinstance(node.func, ast.Name) and node.func.id in names


def lines(nodes):
    return sorted({getattr(node, "lineno", 0) for node in nodes})


def walked(tree, *kinds):
    return [node for node in ast.walk(tree) if isinstance(node, kinds)]


def parents(tree):
    return {child: node for node in ast.walk(tree) for child in ast.iter_child_nodes(node)}


def functions(tree):
    return walked(tree, ast.FunctionDef)


def kinds(tree):
    """Kinds of code that the project does without."""
    return lines(node for node in ast.walk(tree) if type(node).__name__ not in NODES)


def module_level(tree):
    """L3: docstring, imports, functions, classes, and names that get a plain value once."""
    found = [node for node in tree.body if not isinstance(node, (ast.ImportFrom, ast.FunctionDef, ast.ClassDef, ast.Assign))]
    found = [node for node in found if not (node is tree.body[0] and isinstance(getattr(node, "value", None), ast.Constant))]
    for node in tree.body:
        if isinstance(node, ast.Assign):
            plain = all(isinstance(part, (ast.Constant, ast.Tuple, ast.Dict, ast.Name, ast.Load)) for part in ast.walk(node.value))
            nested = [part for part in ast.walk(node.value) if isinstance(part, (ast.Dict, ast.List)) and part is not node.value]
            if not plain or nested or len(node.targets) > 1 or not isinstance(node.targets[0], ast.Name):
                found.append(node)
    return lines(found)


def sizes(tree):
    """L10: functions of at most 40 lines."""
    return lines(node for node in functions(tree) if node.end_lineno - node.lineno >= 40)


def names(tree):
    """L8, L12, L17: names that are not used, and builtins that are none of those let."""
    found = []
    for node in walked(tree, ast.Name, ast.arg, ast.FunctionDef, ast.Attribute, ast.ClassDef, ast.keyword):
        name = getattr(node, "id", None) or getattr(node, "arg", None) or getattr(node, "name", None) or getattr(node, "attr", None)
        if name is None:
            continue
        if name in BARRED or name[:2] == "__" and name not in DOUBLE:
            found.append(node)
        elif isinstance(node, ast.Name) and isinstance(node.ctx, ast.Load):
            if name in EVERY_BUILTIN and name not in BUILTINS | {"property", "staticmethod"}:
                found.append(node)
        elif not isinstance(node, (ast.Attribute, ast.keyword)) and name in EVERY_BUILTIN:
            found.append(node)
    return lines(found)


def barred_words(text):
    """L17: words that occur in no string, but in comments and docstrings."""
    tree = ast.parse(text)
    docs = [node.body[0].value for node in ast.walk(tree)
            if isinstance(node, (ast.Module, ast.ClassDef, ast.FunctionDef)) and node.body and isinstance(node.body[0], ast.Expr)]
    words = [node for node in walked(tree, ast.Constant) if isinstance(node.value, str) and node not in docs]
    return lines(node for node in words if BARRED & set(re.findall(r"\w+", node.value)) or re.search(r"\b__|__\b|%|\._*$", node.value))


def bindings(tree):
    """L15: what is bound twice at the top, and local names that hide an import, a class or a function of the file."""
    tops = [alias.name for node in walked(tree, ast.ImportFrom) for alias in node.names]
    tops += [node.name for node in tree.body if isinstance(node, (ast.ClassDef, ast.FunctionDef))]
    tops += [node.targets[0].id for node in tree.body if isinstance(node, ast.Assign)]
    found = [node for node in walked(tree, ast.arg) if node.arg in tops]
    inner = [node for function in functions(tree) for node in walked(function, ast.Name) if isinstance(node.ctx, ast.Store)]
    found += [node for node in inner if node.id in tops]
    return lines(found) + [0] * (len(tops) - len(set(tops)))


def library(tree):
    """L2: names of the library are called alone, by position, in functions."""
    imported = {alias.name for node in walked(tree, ast.ImportFrom) if node.module in LIBRARY for alias in node.names}
    above = parents(tree)
    found = []
    for node in walked(tree, ast.Name):
        if node.id in imported:
            call = above[node]
            if not isinstance(call, ast.Call) or call.func is not node or call.keywords:
                found.append(node)
    return lines(found)


def own_methods(tree):
    return {node.name for node in functions(tree)}


def methods(tree, own=()):
    """L25: methods of builtin values that are let, without keywords, and called where they stand."""
    found = []
    for node in walked(tree, ast.Call):
        if isinstance(node.func, ast.Attribute):
            if node.func.attr not in METHODS | set(own) or node.func.attr in METHODS and node.keywords:
                found.append(node)
    return lines(found)


def decorators(tree):
    """L4, L5: properties with their setters, and static methods, in classes."""
    found = [node for node in walked(tree, ast.ClassDef) if node.decorator_list]
    for owner in walked(tree, ast.ClassDef):
        told = [part.name for part in owner.body if isinstance(part, ast.FunctionDef)
                and [getattr(one, "id", "") for one in part.decorator_list] == ["property"]]
        for node in owner.body:
            for one in getattr(node, "decorator_list", []):
                setter = isinstance(one, ast.Attribute) and one.attr == "setter" and one.value.id == node.name and node.name in told
                if not setter and getattr(one, "id", "") not in ("property", "staticmethod"):
                    found.append(one)
    inside = {node for owner in walked(tree, ast.ClassDef) for node in owner.body}
    return lines(found + [node for node in functions(tree) if node.decorator_list and node not in inside])


def classes_with_items(tree):
    """L5: a class with [ ] has an __iter__, itself or in a base class of the file."""
    told = {node.name: node for node in walked(tree, ast.ClassDef)}
    found = []
    for node in told.values():
        own = {part.name for part in node.body if isinstance(part, ast.FunctionDef)}
        if "__getitem__" in own and "__iter__" not in own:
            found.append(node)
    return lines(found)


def methods_that_change(tree):
    """L5, L28: operators and properties assign no attribute and no item, and change nothing but by plain local names."""
    found = []
    for owner in walked(tree, ast.ClassDef):
        for method in owner.body:
            if isinstance(method, ast.FunctionDef):
                telling = any(getattr(one, "id", "") == "property" for one in method.decorator_list)
                if method.name in STILL or telling:
                    for node in ast.walk(method):
                        if isinstance(node, (ast.Attribute, ast.Subscript)) and isinstance(node.ctx, ast.Store):
                            found.append(node)
                        elif isinstance(node, ast.AugAssign) or called(node) in CHANGING and not isinstance(node.func, ast.Name):
                            found.append(node)
    return lines(found)


def ends_of_methods(tree):
    """L28: __init__ returns nothing, __len__ a length alone."""
    found = []
    for node in functions(tree):
        told = walked(node, ast.Return)
        if node.name == "__init__":
            found += told
        if node.name == "__len__":
            found += [one for one in told if not is_bare(one.value, "len")]
    return lines(found)


def leaving(tree):
    """L6: what an __exit__ may do."""
    found = []
    for node in functions(tree):
        if node.name == "__exit__":
            for part in node.body + [row for one in node.body if isinstance(one, ast.If) for row in one.body]:
                plain = isinstance(part, ast.Assign) and isinstance(part.value, (ast.Name, ast.Attribute)) or isinstance(part, ast.Pass)
                asked = isinstance(part, ast.If) and ast.unparse(part.test) in ("kind is not None", "kind is None") and not part.orelse
                if not plain and not asked:
                    found.append(part)
    return lines(found)


def wrong_super(tree):
    """L5: super() stands in an __init__ alone here."""
    let = [call for node in functions(tree) if node.name == "__init__" for call in walked(node, ast.Call)]
    let = [call.func.value for call in let if isinstance(call.func, ast.Attribute) and call.func.attr == "__init__"]
    return lines(node for node in walked(tree, ast.Call) if is_bare(node, "super") and (node not in let or node.args))


def catching(tree, own=()):
    """L19: own errors alone are caught, around one statement, and raised on the spot."""
    found = []
    for node in walked(tree, ast.Try):
        if node.orelse or node.finalbody or len(node.body) > 1:
            found.append(node)
        for handler in node.handlers:
            kinds_of = handler.type.elts if isinstance(handler.type, ast.Tuple) else [handler.type]
            if not kinds_of or any(getattr(one, "id", None) not in own for one in kinds_of):
                found.append(handler)
            if handler.name and any(one.id == handler.name and not isinstance(parents(tree)[one], ast.Raise)
                                    for one in walked(handler, ast.Name)):
                found.append(handler)
    for node in walked(tree, ast.Raise):
        if node.exc is not None and not (isinstance(node.exc, ast.Call) and isinstance(node.exc.func, ast.Name) and node.exc.func.id[0].isupper()):
            found.append(node)
    return lines(found)


def identities(tree):
    """L20: is goes with None, True and False."""
    found = []
    for node in walked(tree, ast.Compare):
        for sign, right in zip(node.ops, node.comparators):
            if isinstance(sign, (ast.Is, ast.IsNot)) and ast.unparse(right) not in ("None", "True", "False"):
                found.append(node)
    return lines(found)


def keywords(tree):
    """L22: keywords of builtins."""
    let = {"sorted": {"key", "reverse"}, "min": {"key", "default"}, "max": {"key", "default"}, "sum": {"start"}, "enumerate": {"start"}}
    found = []
    for node in walked(tree, ast.Call):
        if isinstance(node.func, ast.Name) and node.func.id in BUILTINS:
            given = {one.arg for one in node.keywords}
            if not given <= let.get(node.func.id, set()) or "default" in given and len(node.args) != 1:
                found.append(node)
    return lines(found)


def kept_views(tree):
    """L23: views, zips and the like are iterated where they stand."""
    above = parents(tree)
    found = []
    for node in walked(tree, ast.Call):
        if called(node) in VIEWS:
            holder = above[node]
            at_once = isinstance(holder, (ast.For, ast.comprehension)) and holder.iter is node
            first = isinstance(holder, ast.Call) and called(holder) in ITERATING and holder.args[0] is node
            beside = isinstance(holder, ast.Call) and is_bare(holder, "zip") and node in holder.args
            if not at_once and not first and not beside:
                found.append(node)
    return lines(found)


def wrong_reversed(tree):
    """L5: where a class has [ ], reversed goes over list(..), tuple(..), sorted(..), range(..) or what is written."""
    found = []
    for node in walked(tree, ast.Call):
        if is_bare(node, "reversed"):
            plain = isinstance(node.args[0], (ast.List, ast.Tuple, ast.Constant))
            if not plain and not is_bare(node.args[0], "list", "tuple", "sorted", "range"):
                found.append(node)
    return lines(found)


def generators(tree):
    """L7, L23: no generator expressions; what folds takes lists."""
    found = walked(tree, ast.GeneratorExp)
    for node in functions(tree):
        if walked(node, ast.Yield):
            found += [one for one in walked(node, ast.Return) if one.value is not None] + walked(node, ast.Try)
    return lines(found)


def wrong_sets(tree):
    """L24: sets stand in len(..) and sorted(..), or behind in."""
    above = parents(tree)
    found = []
    for node in walked(tree, ast.SetComp, ast.Set, ast.Call):
        if isinstance(node, ast.Call) and not is_bare(node, "set"):
            continue
        holder = above[node]
        behind = isinstance(holder, ast.Compare) and node in holder.comparators and isinstance(holder.ops[0], (ast.In, ast.NotIn))
        if not (is_bare(holder, "len", "sorted") and not holder.keywords) and not behind:
            found.append(node)
    return lines(found)


def choices(node):
    """What a value may be: itself, or each of those that a choice takes it from."""
    if isinstance(node, ast.IfExp):
        return choices(node.body) + choices(node.orelse)
    if isinstance(node, ast.BoolOp):
        return [one for part in node.values for one in choices(part)]
    return [node]


def assigned_pairs(target, value):
    """Each target of an assignment with each value that it may get, as far as they are names, fields or items."""
    if isinstance(target, ast.Tuple) and isinstance(value, ast.Tuple) and len(target.elts) == len(value.elts):
        return [both for one, other in zip(target.elts, value.elts) for both in assigned_pairs(one, other)]
    return [(target, one) for one in choices(value) if isinstance(target, PLACES) and isinstance(one, PLACES)]


def tied(function):
    """A dict from the names, fields and items that a function assigns to one another to all that may be the same."""
    groups = {}
    for node in walked(function, ast.Assign):
        for target in node.targets:
            for both in assigned_pairs(target, node.value):
                words = {ast.unparse(one) for one in both}
                group = words.union(*[groups.get(word, ()) for word in words])
                groups.update({word: group for word in group})
    return groups


def changed_in(rows, over):
    """What changes, in rows, something that is named in over: by a method, an item or an in-place sign."""
    found = []
    for part in [part for row in rows for part in ast.walk(row)]:
        if called(part) in CHANGING and isinstance(part.func, ast.Attribute) and ast.unparse(part.func.value) in over:
            found.append(part)
        if isinstance(part, ast.Subscript) and isinstance(part.ctx, ast.Store) and ast.unparse(part.value) in over:
            found.append(part)
        if isinstance(part, ast.AugAssign) and ast.unparse(part.target) in over:
            found.append(part)
    return found


def changed_in_loops(tree):
    """L23: what a loop goes over is not changed in it, neither by its name nor by one that it is assigned to, or from."""
    found = []
    for function in functions(tree):
        groups = tied(function)
        for node in walked(function, ast.For):
            named = {ast.unparse(part) for part in walked(node.iter, *PLACES)}
            found += changed_in(node.body, named.union(*[groups.get(word, ()) for word in named]))
    return lines(found)


def comprehended_names(tree):
    """L7: a comprehension in another one, or in a nested function, does not take a name from further out."""
    found = []
    for outer in walked(tree, *COMPREHENSIONS):
        taken = {name.id for part in outer.generators for name in walked(part.target, ast.Name)}
        for inner in walked(outer, *COMPREHENSIONS):
            if inner is not outer:
                again = {name.id for part in inner.generators for name in walked(part.target, ast.Name)}
                if taken & again:
                    found.append(inner)
    return lines(found)


def wrong_f_strings(tree):
    """L27: no string and no format in the braces of an f-string."""
    found = []
    for node in walked(tree, ast.FormattedValue):
        if node.format_spec is not None or node.conversion != -1 or walked(node.value, ast.Constant, ast.JoinedStr):
            found.append(node)
    return lines(found)


def constants(tree):
    """L7, L27: integers, short strings, True, False and None."""
    return lines(node for node in walked(tree, ast.Constant) if not isinstance(node.value, (int, str, type(None))))


def defaults(tree):
    """L4: plain default values, no stars, no nested functions."""
    found = []
    for node in functions(tree):
        told = node.args.defaults + [one for one in node.args.kw_defaults if one is not None]
        found += [one for one in told if not isinstance(one, ast.Constant)]
        if node.args.vararg or node.args.kwarg or node.args.posonlyargs or any(one is not node for one in functions(node)):
            found.append(node)
        if node.args.kwonlyargs and node.name[:2] == "__" and node.name != "__init__":
            found.append(node)
    return lines(found)


LOOKS = (kinds, module_level, sizes, names, bindings, library, decorators, methods_that_change, ends_of_methods, leaving, wrong_super, identities,
         keywords, kept_views, wrong_reversed, generators, wrong_sets, changed_in_loops, comprehended_names, wrong_f_strings, constants, defaults,
         classes_with_items)
