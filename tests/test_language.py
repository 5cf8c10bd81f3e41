"""The package keeps to its subset of Python, as far as a short test can see (L1 to L28)."""

import ast
import builtins
import pathlib
import re
import unittest

FOLDER = pathlib.Path(__file__).resolve().parent.parent / "starshelves"
FILES = {path.stem: path for path in sorted(FOLDER.glob("*.py"))}
TREES = {name: ast.parse(path.read_text(encoding="ascii")) for name, path in FILES.items()}
LIBRARY = {
    "heapq": {"heappush", "heappop", "heapify", "heapreplace", "heappushpop"},
    "math": {"gcd", "lcm", "isqrt", "comb", "perm", "factorial"},
}
BUILTINS = set(
    "len range enumerate zip min max sum abs sorted reversed int str bool list tuple dict set isinstance ord repr any all "
    "divmod iter next map ValueError TypeError KeyError NotImplemented".split()
)
DUNDERS = set(
    "init eq repr str len enter exit call iter lt le gt ge ne add sub mul floordiv mod pow and or xor lshift rshift "
    "neg pos invert abs bool contains getitem setitem".split()
)
METHODS = set(
    "append clear copy count endswith extend find get index insert isalnum isalpha isdigit islower isspace isupper items "
    "join keys ljust lower lstrip partition pop remove replace reverse rfind rjust rpartition rsplit rstrip setdefault "
    "split splitlines startswith strip update upper values zfill bit_length".split()
)
BARRED = set(
    "register mro elements open input law attrgetter breakpoint compile delattr dir eval exec exit gc globals help id "
    "importlib license locals os quit super vars sys type typing enum Enum Flag Generic Protocol ABC namedtuple".split()
)
STATEMENTS = (
    ast.FunctionDef, ast.ClassDef, ast.Return, ast.Assign, ast.AugAssign, ast.For, ast.While, ast.If, ast.Raise,
    ast.Assert, ast.Expr, ast.Pass, ast.Break, ast.Continue, ast.ImportFrom, ast.Delete, ast.Try, ast.With,
)
FUNCTIONS = (ast.FunctionDef, ast.Lambda)
NEW = (ast.List, ast.Dict, ast.ListComp, ast.DictComp)
MAKERS = ("list", "dict", "sorted")
CHANGING = ("__init__", "__call__", "__setitem__", "__enter__", "__exit__")
CHANGERS = "append clear extend insert pop remove reverse setdefault sort update".split()


def nodes(kind):
    """All nodes of a kind, with the name of their file."""
    return [(name, node) for name, tree in TREES.items() for node in ast.walk(tree) if isinstance(node, kind)]


def bound_names(tree):
    """All names that a tree binds, wherever."""
    names = {node.id for node in ast.walk(tree) if isinstance(node, ast.Name) and isinstance(node.ctx, ast.Store)}
    names |= {node.arg for node in ast.walk(tree) if isinstance(node, ast.arg)}
    return names | {node.name for node in ast.walk(tree) if isinstance(node, (ast.FunctionDef, ast.ClassDef))}


def imported(tree):
    """The names that a file imports, each with its module."""
    return {item.name: node.module for node in tree.body if isinstance(node, ast.ImportFrom) for item in node.names}


def top_names(tree):
    """The names that a file defines."""
    own = [node.name for node in tree.body if isinstance(node, (ast.FunctionDef, ast.ClassDef))]
    return own + [node.targets[0].id for node in tree.body if isinstance(node, ast.Assign)]


def is_plainly_new(value):
    """Whether a value is plainly a new list or dict; [0] * size is none, since a class has a sign *."""
    return isinstance(value, NEW) or (isinstance(value, ast.Call) and getattr(value.func, "id", "") in MAKERS)


def changed_names(function):
    """The local names of which a function assigns items, or calls what changes a list or a dict."""
    for node in ast.walk(function):
        if isinstance(node, ast.Subscript) and not isinstance(node.ctx, ast.Load):
            yield node.value
        if isinstance(node, ast.Call) and isinstance(node.func, ast.Attribute) and node.func.attr in CHANGERS:
            yield node.func.value


def assigns_attributes(function):
    """Whether a function assigns attributes, by whatever statement."""
    return any(isinstance(node, ast.Attribute) and not isinstance(node.ctx, ast.Load) for node in ast.walk(function))


def called_names(function):
    """The names of what a function calls, and of all attributes that it reads."""
    names = {node.func.id for node in ast.walk(function) if isinstance(node, ast.Call) and isinstance(node.func, ast.Name)}
    return names | {node.attr for node in ast.walk(function) if isinstance(node, ast.Attribute)}


class Files(unittest.TestCase):
    def test_files_and_sizes(self):
        rest = [path.name for path in FOLDER.iterdir() if path.suffix != ".py" and path.name != "__pycache__"]
        self.assertEqual(rest, [])
        self.assertLessEqual(len(FILES), 100)
        for name, path in FILES.items():
            text = path.read_text(encoding="ascii")
            self.assertRegex(name, r"^[a-z_][a-z0-9_]*$")
            self.assertRegex(text, r"^[ -~\n]*$")
            self.assertLessEqual(len(text.split("\n")), 399, name)
            self.assertLessEqual(max(len(line) for line in text.split("\n")), 120, name)

    def test_functions_are_short(self):
        for name, node in nodes(ast.FunctionDef):
            self.assertLessEqual(node.end_lineno - node.lineno + 1, 40, (name, node.name))

    def test_imports(self):
        for name, tree in TREES.items():
            for node in ast.walk(tree):
                self.assertNotIsInstance(node, ast.Import)
                if not isinstance(node, ast.ImportFrom):
                    continue
                self.assertIn(node, tree.body)
                self.assertTrue(all(item.asname is None and item.name != "*" for item in node.names))
                if node.module in LIBRARY:
                    self.assertLessEqual({item.name for item in node.names}, LIBRARY[node.module])
                else:
                    home = node.module.removeprefix("starshelves.")
                    for item in node.names:
                        self.assertIn(item.name, top_names(TREES[home]), name)

    def test_no_two_files_import_from_each_other(self):
        needs = {name: {home.removeprefix("starshelves.") for home in imported(tree).values()} & set(FILES)
                 for name, tree in TREES.items()}
        while needs:
            ready = [name for name in needs if not needs[name] & set(needs)]
            self.assertNotEqual(ready, [], needs)
            needs = {name: needs[name] for name in needs if name not in ready}

    def test_all_imports_are_used(self):
        for name, tree in TREES.items():
            read = {node.id for node in ast.walk(tree) if isinstance(node, ast.Name)}
            self.assertLessEqual(set(imported(tree)), read, name)


class Statements(unittest.TestCase):
    def test_module_level(self):
        for name, tree in TREES.items():
            for at, node in enumerate(tree.body):
                text = at == 0 and isinstance(node, ast.Expr) and isinstance(node.value, ast.Constant)
                self.assertTrue(text or isinstance(node, (ast.ImportFrom, ast.FunctionDef, ast.ClassDef, ast.Assign)), name)
            self.assertEqual(len(top_names(tree)), len(set(top_names(tree))))
            self.assertIsNotNone(ast.get_docstring(tree), name)

    def test_kinds_of_statements(self):
        for name, node in nodes(ast.stmt):
            self.assertIsInstance(node, STATEMENTS, (name, node.lineno))

    def test_decorators_and_dunders(self):
        for name, node in nodes((ast.FunctionDef, ast.ClassDef)):
            for sign in node.decorator_list:
                self.assertIn(sign.id, ("property", "classmethod", "staticmethod"), (name, node.name))
            if node.name.startswith("__"):
                self.assertIn(node.name.strip("_"), DUNDERS, (name, node.name))

    def test_expressions(self):
        for name, node in nodes((ast.Constant, ast.Div, ast.GeneratorExp, ast.YieldFrom)):
            self.assertNotIsInstance(node, (ast.Div, ast.GeneratorExp, ast.YieldFrom), name)
            if isinstance(node, ast.Constant):
                self.assertNotIsInstance(node.value, (float, complex, bytes), (name, node.lineno))
                self.assertNotIn("%", node.value if isinstance(node.value, str) else "", name)

    def test_is_stands_beside_none_true_and_false(self):
        for name, node in nodes(ast.Compare):
            for sign, other in zip(node.ops, node.comparators):
                if isinstance(sign, (ast.Is, ast.IsNot)):
                    self.assertIn(getattr(other, "value", 0), (None, True, False), (name, node.lineno))

    def test_generators_are_plain_functions_that_are_iterated_at_once(self):
        made = [node for _, node in nodes(ast.FunctionDef) if any(isinstance(part, ast.Yield) for part in ast.walk(node))]
        tops = [node for tree in TREES.values() for node in tree.body]
        self.assertTrue(all(node in tops for node in made))
        names = {node.name for node in made}
        own = [node.name for _, node in nodes(ast.FunctionDef)]
        self.assertTrue(all(own.count(name) == 1 for name in names))
        iterated = []
        for _, node in nodes((ast.For, ast.comprehension, ast.Call)):
            if not isinstance(node, ast.Call):
                iterated.append(node.iter)
            elif getattr(node.func, "id", "") in ("list", "tuple", "sorted", "sum", "any", "all", "min", "max", "dict"):
                iterated.extend(node.args)
        for name, node in nodes(ast.Call):
            if getattr(node.func, "id", "") in names:
                self.assertIn(node, iterated, name)
        called = [node.func for _, node in nodes(ast.Call)]
        for name, node in nodes(ast.Name):
            self.assertTrue(node.id not in names or node in called, (name, node.id))

    def test_exponents_are_literal(self):
        for name, node in nodes(ast.BinOp):
            if isinstance(node.op, ast.Pow):
                self.assertIsInstance(node.right, ast.Constant, (name, node.lineno))


class Changes(unittest.TestCase):
    """What signs, properties and their kin reach changes nothing (L5 Operators, L28)."""

    def test_only_lists_and_dicts_that_a_function_plainly_made_are_changed(self):
        for name, function in nodes(ast.FunctionDef):
            made = {}
            for node in ast.walk(function):
                for target in node.targets if isinstance(node, ast.Assign) else ():
                    for bound in ast.walk(target):
                        if isinstance(bound, ast.Name) and isinstance(bound.ctx, ast.Store):
                            made.setdefault(bound.id, []).append(node.value if bound == target else None)
            for changed in changed_names(function):
                self.assertIsInstance(changed, ast.Name, (name, function.name))
                values = made.get(changed.id, [None])
                self.assertTrue(all(is_plainly_new(value) for value in values), (name, function.name, changed.id))

    def test_attributes_are_assigned_by_init_and_by_methods_of_classes_that_change_alone(self):
        for name, tree in TREES.items():
            for home in [tree, *[node for node in tree.body if isinstance(node, ast.ClassDef)]]:
                for function in [node for node in home.body if isinstance(node, ast.FunctionDef)]:
                    if assigns_attributes(function) and function.name != "__init__":
                        self.assertIn(getattr(home, "name", None), ("Draft", "LiveHall", "Desk"), (name, function.name))
                        self.assertEqual(function.decorator_list, [])

    def test_signs_and_properties_reach_no_function_that_assigns_attributes(self):
        functions = {}
        for _, function in nodes(ast.FunctionDef):
            functions.setdefault(function.name, []).append(function)
        calls = {function: called_names(function) & set(functions) for _, function in nodes(ast.FunctionDef)}
        for name, function in nodes(ast.FunctionDef):
            if not (function.decorator_list or function.name.startswith("__")) or function.name in CHANGING:
                continue
            reached, ahead = {function}, [function]
            while ahead:
                further = {other for called in calls[ahead.pop()] for other in functions[called]} - reached
                reached |= further
                ahead.extend(further)
            for other in reached:
                self.assertTrue(other.name == "__init__" or not assigns_attributes(other), (name, function.name, other.name))

    def test_sums_in_place_are_of_literal_integers(self):
        for name, node in nodes(ast.AugAssign):
            self.assertIsInstance(node.target, (ast.Name, ast.Attribute), (name, node.lineno))
            self.assertIsInstance(node.op, ast.Add, (name, node.lineno))
            self.assertIsInstance(getattr(node.value, "value", None), int, (name, node.lineno))

    def test_rows_of_finally_and_exit_are_plain_assignments(self):
        blocks = [node.finalbody for _, node in nodes(ast.Try)]
        blocks += [node.body for _, node in nodes(ast.FunctionDef) if node.name == "__exit__"]
        for node in [node for block in blocks for node in block]:
            self.assertIsInstance(node, ast.Assign)
            self.assertIsInstance(node.value, (ast.Attribute, ast.Constant))

    def test_own_errors_alone_are_caught(self):
        known = {node.name for node in TREES["errors"].body if isinstance(node, ast.ClassDef)}
        for name, node in nodes(ast.ExceptHandler):
            caught = node.type.elts if isinstance(node.type, ast.Tuple) else [node.type]
            self.assertLessEqual({item.id for item in caught}, known, name)


class Names(unittest.TestCase):
    def test_names_are_plain_and_not_those_of_builtins(self):
        for name, tree in TREES.items():
            for bound in bound_names(tree):
                if not bound.startswith("__"):
                    self.assertRegex(bound, r"^(_|_?[A-Za-z][A-Za-z0-9_]*)$")
                    self.assertNotIn(bound, vars(builtins), name)
                    self.assertNotIn(bound, BARRED, name)

    def test_no_name_hides_an_import_or_a_class(self):
        for name, tree in TREES.items():
            classes = {node.name for node in tree.body if isinstance(node, ast.ClassDef)}
            for function in [node for node in ast.walk(tree) if isinstance(node, FUNCTIONS)]:
                inner = {node.id for node in ast.walk(function)
                         if isinstance(node, ast.Name) and isinstance(node.ctx, ast.Store)}
                inner |= {node.arg for node in ast.walk(function) if isinstance(node, ast.arg)}
                self.assertEqual(inner & (classes | set(imported(tree))), set(), name)

    def test_every_name_is_known(self):
        for name, tree in TREES.items():
            known = bound_names(tree) | set(imported(tree)) | BUILTINS | {"property", "classmethod", "staticmethod"}
            read = {node.id for node in ast.walk(tree) if isinstance(node, ast.Name)}
            self.assertLessEqual(read, known, name)

    def test_methods_that_are_called(self):
        own = {node.name for _, node in nodes(ast.FunctionDef)}
        for name, node in nodes(ast.Call):
            if isinstance(node.func, ast.Attribute):
                self.assertIn(node.func.attr, METHODS | own, (name, node.lineno))

    def test_barred_words(self):
        for name, path in FILES.items():
            code = re.sub(r'"""(.|\n)*?"""|#[^\n]*', "", path.read_text(encoding="ascii"))
            for word in ("type", "typing", "dataclass", "overload", "contextmanager", "_wall", "Meta"):
                self.assertNotRegex(code, rf"\b{word}\b", name)


if __name__ == "__main__":
    unittest.main()
