"""Holds the package's files to LANGUAGE.md, as far as a look at the written code can."""

import ast
import builtins
import os
import re
import unittest

ROOT = os.path.dirname(os.path.dirname(os.path.abspath(__file__)))
PACKAGE = os.path.join(ROOT, "floorcurves")

OWN_NAMES = set(
    "len range enumerate zip min max sum abs sorted reversed int str bool list tuple dict set frozenset isinstance "
    "ord repr any all divmod Exception ValueError TypeError KeyError IndexError LookupError ZeroDivisionError "
    "ArithmeticError OverflowError RuntimeError NotImplementedError AttributeError StopIteration".split()
)
METHODS = set(
    "append clear copy count endswith extend find get index insert isalnum isalpha isdigit islower isspace isupper "
    "items join keys ljust lower lstrip partition pop remove replace reverse rfind rjust rpartition rsplit rstrip "
    "setdefault split splitlines startswith strip update upper values zfill bit_length".split()
)
CHANGING = set("append clear extend insert pop remove reverse setdefault update".split())
SPECIAL = set("__init__ __eq__ __repr__ __str__ __len__".split())
UNUSED_NAMES = set(
    "register mro elements open input version_info with_traceback add_note attrgetter breakpoint builtins compile "
    "copyright credits delattr dir eval exec exit gc getattr globals hasattr help id importlib license locals "
    "methodcaller os quit setattr super type vars sys format format_map".split()
)
UNUSED_WORDS = set(
    "type typing typing_extensions enum Enum IntEnum StrEnum Flag IntFlag Generic Protocol ABC ABCMeta namedtuple "
    "NamedTuple TypedDict TYPE_CHECKING abstractmethod".split()
)
UNUSED_PARTS = ("dataclass", "overload", "contextmanager")
FILES_NOT_USED = set("test tests testing site conftest sitecustomize usercustomize".split())
STATEMENTS = (
    ast.Assign, ast.AugAssign, ast.If, ast.While, ast.For, ast.Return, ast.Break, ast.Continue, ast.Pass, ast.Raise,
    ast.Try, ast.Expr, ast.FunctionDef, ast.ClassDef, ast.ImportFrom,
)
EXPRESSIONS = (
    ast.BinOp, ast.UnaryOp, ast.BoolOp, ast.Compare, ast.IfExp, ast.Call, ast.Attribute, ast.Subscript, ast.Slice,
    ast.ListComp, ast.Constant, ast.Name, ast.List, ast.Tuple, ast.Dict, ast.Set, ast.JoinedStr, ast.FormattedValue,
    ast.Lambda,
)
WALKED = set("zip enumerate reversed range".split())
WALKERS = set("list tuple dict sorted sum any all enumerate zip min max".split())
PLAIN_NAME = re.compile(r"[A-Za-z][A-Za-z0-9_]*\Z")


def package_files():
    found = []
    for folder, folders, files in os.walk(PACKAGE):
        folders[:] = [name for name in folders if name != "__pycache__"]
        for name in folders:
            found.append(os.path.join(folder, name))
        found.extend(os.path.join(folder, name) for name in files)
    return sorted(found)


def module_of(path):
    return os.path.relpath(path, ROOT)[:-3].replace(os.sep, ".")


def parsed():
    for path in package_files():
        with open(path, encoding="ascii") as source:
            text = source.read()
        yield module_of(path), text, ast.parse(text)


def bound_in(target):
    return [node.id for node in ast.walk(target) if isinstance(node, ast.Name) and isinstance(node.ctx, ast.Store)]


def top_names(tree):
    names = []
    for node in tree.body:
        if isinstance(node, (ast.FunctionDef, ast.ClassDef)):
            names.append(node.name)
        elif isinstance(node, ast.ImportFrom):
            names.extend(alias.asname or alias.name for alias in node.names)
        elif isinstance(node, ast.Assign):
            names.extend(bound_in(node.targets[0]))
    return names


def own_top_names(tree):
    imported = [alias.name for node in tree.body if isinstance(node, ast.ImportFrom) for alias in node.names]
    return [name for name in top_names(tree) if name not in imported]


def functions(tree):
    return [node for node in ast.walk(tree) if isinstance(node, ast.FunctionDef)]


def local_names(tree):
    names = []
    for node in ast.walk(tree):
        if isinstance(node, (ast.FunctionDef, ast.Lambda)):
            names.extend(arg.arg for arg in node.args.args)
        if isinstance(node, ast.FunctionDef):
            for inner in ast.walk(node):
                names.extend(bound_in(inner) if isinstance(inner, ast.Name) else [])
                if isinstance(inner, ast.ExceptHandler) and inner.name:
                    names.append(inner.name)
    return names


def parents(tree):
    return {child: node for node in ast.walk(tree) for child in ast.iter_child_nodes(node)}


def called(node):
    return node.func.id if isinstance(node, ast.Call) and isinstance(node.func, ast.Name) else None


class Language(unittest.TestCase):
    def each(self, check):
        for module, text, tree in parsed():
            with self.subTest(module):
                check(module, text, tree)

    def test_files(self):
        for path in package_files():
            name = os.path.basename(path)
            self.assertTrue(os.path.isfile(path) and name.endswith(".py"), path)
            stem = name[:-3]
            if stem not in ("__init__", "__main__"):
                self.assertRegex(stem, r"\A[a-z][a-z0-9_]*\Z")
                self.assertNotIn(stem, FILES_NOT_USED | UNUSED_WORDS | set(dir(builtins)))
                self.assertFalse(stem.startswith("test_"), path)
        self.assertTrue(os.path.isfile(os.path.join(PACKAGE, "__init__.py")))

    def test_size_and_signs(self):
        def check(module, text, tree):
            self.assertRegex(text, r"\A[ -~\n]*\Z")
            rows = text.split("\n")
            self.assertLessEqual(len(rows), 400)
            self.assertLessEqual(max(len(row) for row in rows), 120)
            for node in functions(tree):
                self.assertLessEqual(node.end_lineno - node.lineno + 1, 40, node.name)

        self.each(check)

    def test_words(self):
        def check(module, text, tree):
            self.assertEqual(set(re.findall(r"\w+", text)) & UNUSED_WORDS, set())
            for part in UNUSED_PARTS:
                self.assertNotIn(part, text)

        self.each(check)

    def test_imports(self):
        drawn = {}
        defined = {module: own_top_names(tree) for module, text, tree in parsed()}

        def check(module, text, tree):
            drawn[module] = []
            for node in ast.walk(tree):
                self.assertNotIsInstance(node, ast.Import)
                if isinstance(node, ast.ImportFrom):
                    self.assertIn(node, tree.body)
                    self.assertEqual(node.level, 0)
                    drawn[module].append(node.module)
                    for alias in node.names:
                        self.assertIsNone(alias.asname)
                        self.assertIn(alias.name, defined[node.module])

        self.each(check)
        self.assertEqual(drawn["floorcurves.__init__"], [])
        done = []
        while len(done) < len(drawn):
            ready = [name for name in drawn if name not in done and all(other in done for other in drawn[name])]
            self.assertTrue(ready, "files draw from one another")
            done.extend(ready)

    def test_top_of_module(self):
        def check(module, text, tree):
            self.assertIsNotNone(ast.get_docstring(tree))
            for node in tree.body[1:]:
                self.assertIsInstance(node, (ast.ImportFrom, ast.FunctionDef, ast.ClassDef, ast.Assign))
                if isinstance(node, ast.Assign):
                    self.assertIsInstance(node.targets[0], ast.Name)
                    ast.literal_eval(node.value)
                    for inner in list(ast.walk(node.value))[1:]:
                        self.assertNotIsInstance(inner, (ast.List, ast.Dict, ast.Set))
            names = top_names(tree)
            self.assertEqual(len(names), len(set(names)))

        self.each(check)

    def test_top_lists_and_dicts_are_only_read(self):
        def check(module, text, tree):
            kept = {
                node.targets[0].id for node in tree.body
                if isinstance(node, ast.Assign) and isinstance(node.value, (ast.List, ast.Dict))
            }
            above = parents(tree)
            for node in ast.walk(tree):
                if isinstance(node, ast.Name) and node.id in kept and isinstance(node.ctx, ast.Load):
                    user = above[node]
                    if isinstance(user, ast.Subscript):
                        self.assertIsInstance(user.ctx, ast.Load)
                    elif isinstance(user, ast.Attribute):
                        self.assertIn(user.attr, ("get", "items", "keys", "values", "index", "count"))
                    elif isinstance(user, ast.Call):
                        self.assertIn(called(user), OWN_NAMES)
                    else:
                        self.assertIsInstance(user, (ast.For, ast.comprehension, ast.Compare))

        self.each(check)

    def test_functions_and_classes(self):
        def check(module, text, tree):
            for node in functions(tree):
                self.assertEqual(node.decorator_list, [])
                args = node.args
                self.assertEqual((args.posonlyargs, args.kwonlyargs, args.vararg, args.kwarg), ([], [], None, None))
                self.assertIsNone(node.returns)
                self.assertTrue(all(arg.annotation is None for arg in args.args))
            for node in ast.walk(tree):
                if isinstance(node, ast.ClassDef):
                    self.assertIn(node, tree.body)
                    self.assertEqual((node.decorator_list, node.keywords), ([], []))
                    self.assertLessEqual(len(node.bases), 1)
                    for inner in node.body:
                        self.assertIsInstance(inner, (ast.FunctionDef, ast.Pass))

        self.each(check)

    def test_statements_and_expressions(self):
        def check(module, text, tree):
            for node in ast.walk(tree):
                if isinstance(node, ast.stmt):
                    self.assertIsInstance(node, STATEMENTS)
                if isinstance(node, ast.expr):
                    self.assertIsInstance(node, EXPRESSIONS, getattr(node, "lineno", None))
                if isinstance(node, ast.Assign):
                    self.assertEqual(len(node.targets), 1)
                if isinstance(node, ast.Expr) and node is not tree.body[0]:
                    self.assertIsInstance(node.value, ast.Call)
                if isinstance(node, (ast.For, ast.While)):
                    self.assertEqual(node.orelse, [])
                if isinstance(node, ast.Try):
                    self.assertEqual(node.finalbody, [])
                    self.assertTrue(all(handler.type is not None for handler in node.handlers))
                if isinstance(node, ast.ListComp):
                    self.assertEqual(len(node.generators), 1)
                    self.assertLessEqual(len(node.generators[0].ifs), 1)
                if isinstance(node, ast.FormattedValue):
                    self.assertIsInstance(node.value, ast.Name)
                    self.assertIsNone(node.format_spec)
                    self.assertIn(node.conversion, (-1, ord("r")))

        self.each(check)

    def test_operators_and_plain_values(self):
        def check(module, text, tree):
            for node in ast.walk(tree):
                self.assertNotIsInstance(node, (ast.Div, ast.MatMult))
                if isinstance(node, ast.Constant):
                    self.assertIsInstance(node.value, (int, str, type(None)))
                    if isinstance(node.value, str):
                        self.assertNotIn("%", node.value)
                if isinstance(node, ast.BinOp) and isinstance(node.op, ast.Pow):
                    self.assertIsInstance(node.right, ast.Constant)
                    self.assertTrue(0 <= node.right.value <= 64)
                if isinstance(node, ast.Compare):
                    for operator, right in zip(node.ops, node.comparators):
                        if isinstance(operator, (ast.Is, ast.IsNot)):
                            self.assertIn(repr(getattr(right, "value", right)), ("None", "True", "False"))

        self.each(check)

    def test_names(self):
        def check(module, text, tree):
            classes = [node.name for node in tree.body if isinstance(node, ast.ClassDef)]
            imports = [a.name for node in tree.body if isinstance(node, ast.ImportFrom) for a in node.names]
            known = set(top_names(tree)) | set(local_names(tree)) | OWN_NAMES
            for name in top_names(tree) + local_names(tree):
                self.assertRegex(name, PLAIN_NAME)
                self.assertNotIn(name, UNUSED_NAMES | set(dir(builtins)))
            for name in local_names(tree):
                self.assertNotIn(name, classes + imports)
            for node in ast.walk(tree):
                if isinstance(node, ast.Name):
                    self.assertIn(node.id, known)
                if isinstance(node, ast.FunctionDef) and node.name.startswith("_"):
                    self.assertIn(node.name, SPECIAL)
                if isinstance(node, ast.Attribute):
                    self.assertRegex(node.attr, PLAIN_NAME)
                    self.assertNotIn(node.attr, UNUSED_NAMES)

        self.each(check)

    def test_calls(self):
        own_methods = {
            inner.name for module, text, tree in parsed() for node in tree.body if isinstance(node, ast.ClassDef)
            for inner in node.body if isinstance(inner, ast.FunctionDef)
        }

        def check(module, text, tree):
            above = parents(tree)
            for node in ast.walk(tree):
                if isinstance(node, ast.Call) and isinstance(node.func, ast.Attribute):
                    self.assertIn(node.func.attr, METHODS | own_methods)
                if called(node) in OWN_NAMES and node.keywords:
                    self.assertIn(called(node), ("sorted", "min", "max", "sum", "enumerate", "zip"))
                if called(node) in WALKED:
                    user = above[node]
                    walked = isinstance(user, (ast.For, ast.comprehension)) or called(user) in WALKERS
                    self.assertTrue(walked or isinstance(getattr(user, "func", None), ast.Attribute), node.lineno)
                if called(node) in ("set", "frozenset") or isinstance(node, ast.Set):
                    user = above[node]
                    self.assertTrue(isinstance(user, (ast.Compare, ast.BinOp)) or called(user) in ("sorted", "len"))

        self.each(check)

    def test_what_a_loop_walks_is_not_changed(self):
        def check(module, text, tree):
            for loop in [node for node in ast.walk(tree) if isinstance(node, ast.For)]:
                walked = {node.id for node in ast.walk(loop.iter) if isinstance(node, ast.Name)}
                if called(loop.iter) in ("list", "sorted", "tuple", "range"):
                    continue
                for node in [inner for row in loop.body for inner in ast.walk(row)]:
                    if isinstance(node, ast.Subscript) and isinstance(node.ctx, ast.Store):
                        self.assertNotIn(getattr(node.value, "id", None), walked)
                    if isinstance(node, ast.Attribute) and node.attr in CHANGING:
                        self.assertNotIn(getattr(node.value, "id", None), walked)

        self.each(check)


if __name__ == "__main__":
    unittest.main()
