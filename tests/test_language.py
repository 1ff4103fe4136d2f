"""The package keeps to the rules of its language, as far as a look at its text shows it."""

import ast
import builtins
import pathlib
import re
import unittest

ROOT = pathlib.Path(__file__).resolve().parent.parent
FILES = sorted((ROOT / "kitwright").glob("*.py"))
BUILTINS = """len range enumerate zip min max sum abs sorted reversed int str bool bytes list tuple dict set frozenset isinstance
ord repr any all divmod map iter next print Exception ValueError TypeError KeyError IndexError LookupError super property
ZeroDivisionError ArithmeticError OverflowError RuntimeError NotImplementedError AttributeError StopIteration
NotImplemented staticmethod classmethod""".split()
METHODS = """append clear copy count endswith extend find get index insert isalnum isalpha isdigit islower isspace isupper
items join keys ljust lower lstrip partition pop remove replace reverse rfind rjust rpartition rsplit rstrip setdefault
split splitlines startswith strip update upper values zfill bit_length title capitalize swapcase casefold center
removeprefix removesuffix rindex isascii isdecimal isnumeric isidentifier""".split()
LIBRARY = {"heapq": {"heappush", "heappop", "heapify", "heapreplace", "heappushpop"},
           "math": {"gcd", "lcm", "isqrt", "comb", "perm", "factorial"},
           "itertools": {"product", "combinations", "permutations"}}
NEVER = """register mro elements open input law version_info with_traceback add_note attrgetter breakpoint builtins compile
copyright credits delattr dir eval exec exit gc getattr globals hasattr help id importlib license locals methodcaller os
quit setattr type vars sys""".split()
WORDS = """type typing typing_extensions enum Enum IntEnum StrEnum Flag IntFlag Generic Protocol ABC ABCMeta namedtuple
NamedTuple TypedDict TYPE_CHECKING abstractmethod""".split()
DOUBLE = """__init__ __eq__ __repr__ __str__ __len__ __enter__ __exit__ __call__ __iter__ __lt__ __le__ __gt__ __ge__ __ne__
__add__ __sub__ __mul__ __and__ __or__ __xor__ __invert__ __contains__ __rand__ __ror__ __rsub__ __bool__""".split()
STATEMENTS = (ast.Assign, ast.AugAssign, ast.If, ast.While, ast.For, ast.Return, ast.Break, ast.Continue, ast.Pass,
              ast.Raise, ast.Assert, ast.Delete, ast.Try, ast.With, ast.Expr, ast.FunctionDef, ast.ClassDef,
              ast.ImportFrom)
NO_EXPRESSIONS = (ast.GeneratorExp, ast.Await, ast.Yield, ast.YieldFrom, ast.NamedExpr, ast.Global, ast.Nonlocal)
TAKES_LIST = ("any", "all", "min", "max", "sum", "sorted")


def trees():
    """Pairs of a file and its tree."""
    for path in FILES:
        yield path, ast.parse(path.read_text())


def docstrings(tree):
    """The nodes of the docstrings."""
    found = []
    for node in ast.walk(tree):
        if isinstance(node, (ast.Module, ast.ClassDef, ast.FunctionDef)) and ast.get_docstring(node) is not None:
            found.append(node.body[0].value)
    return found


def bound_names(tree):
    """All names that are bound: parameters, variables, functions, classes, imports."""
    for node in ast.walk(tree):
        if isinstance(node, ast.Name) and not isinstance(node.ctx, ast.Load):
            yield node.id
        elif isinstance(node, (ast.FunctionDef, ast.ClassDef)):
            yield node.name
        elif isinstance(node, ast.arg):
            yield node.arg
        elif isinstance(node, ast.alias):
            yield node.asname or node.name


def own_methods(tree):
    """The names of the methods of classes."""
    return {part.name for node in ast.walk(tree) if isinstance(node, ast.ClassDef) for part in node.body
            if isinstance(part, ast.FunctionDef)}


def passed_functions(tree):
    """The names of the parameters that stand for functions."""
    return {node.arg for node in ast.walk(tree) if isinstance(node, ast.arg) and node.arg == "work"}


class Language(unittest.TestCase):
    def test_files(self):
        self.assertTrue(FILES)
        for path in (ROOT / "kitwright").iterdir():
            self.assertTrue(path.suffix == ".py" or path.name == "__pycache__", path)
        for path in FILES:
            text = path.read_text()
            rows = text.split("\n")
            self.assertLessEqual(len(rows) - 1, 399, path)
            for number, row in enumerate(rows, 1):
                self.assertLessEqual(len(row), 120, (path, number))
                self.assertTrue(all(" " <= letter <= "~" for letter in row), (path, number))
                self.assertEqual(row, row.rstrip(), (path, number))
            self.assertTrue(text.endswith("\n") and not text.endswith("\n\n"), path)
            self.assertRegex(path.name, r"^[a-z_]+\.py$")
            self.assertFalse(hasattr(builtins, path.stem.strip("_")), path)

    def test_functions_are_short(self):
        for path, tree in trees():
            for node in ast.walk(tree):
                if isinstance(node, ast.FunctionDef):
                    self.assertLessEqual(node.end_lineno - node.lineno + 1, 40, (path, node.name))
                    self.assertFalse(node.args.defaults and node.args.kwonlyargs, (path, node.name))

    def test_functions_and_classes_tell_what_they_are(self):
        for path, tree in trees():
            self.assertTrue(ast.get_docstring(tree), path)
            for node in ast.walk(tree):
                if isinstance(node, ast.ClassDef) or isinstance(node, ast.FunctionDef) and node.name[:2] != "__":
                    self.assertTrue(ast.get_docstring(node), (path, node.name))

    def test_imports(self):
        names = {path.stem for path in FILES}
        for path, tree in trees():
            for at, node in enumerate(tree.body):
                if isinstance(node, ast.ImportFrom):
                    ahead = tree.body[:at]
                    self.assertTrue(all(isinstance(one, (ast.ImportFrom, ast.Expr)) for one in ahead), path)
            for node in ast.walk(tree):
                self.assertNotIsInstance(node, ast.Import, path)
                if isinstance(node, ast.ImportFrom):
                    self.assertEqual(node.level, 0)
                    told = {alias.name for alias in node.names}
                    self.assertTrue(all(alias.asname is None for alias in node.names), path)
                    if node.module in LIBRARY:
                        self.assertLessEqual(told, LIBRARY[node.module], path)
                        continue
                    package, module = node.module.split(".")
                    self.assertEqual(package, "kitwright", path)
                    self.assertIn(module, names, path)
                    source = ast.parse((ROOT / "kitwright" / (module + ".py")).read_text())
                    defined = {one.name for one in source.body if isinstance(one, (ast.FunctionDef, ast.ClassDef))}
                    defined |= {one.targets[0].id for one in source.body if isinstance(one, ast.Assign)}
                    self.assertLessEqual(told, defined, path)

    def test_imports_are_used_and_not_hidden(self):
        for path, tree in trees():
            told = [alias.name for node in tree.body if isinstance(node, ast.ImportFrom) for alias in node.names]
            used = {node.id for node in ast.walk(tree) if isinstance(node, ast.Name) and isinstance(node.ctx, ast.Load)}
            classes = [node.name for node in tree.body if isinstance(node, ast.ClassDef)]
            bound = list(bound_names(tree))
            for name in told:
                self.assertIn(name, used, path)
            for name in told + classes:
                self.assertEqual(bound.count(name), 1, (path, name))

    def test_each_function_is_used_or_of_the_interface(self):
        text = "\n".join(path.read_text() for path in FILES)
        spec = (ROOT / "tests" / "test_interface.py").read_text()
        for path, tree in trees():
            for node in tree.body:
                if isinstance(node, (ast.FunctionDef, ast.Assign)):
                    name = node.name if isinstance(node, ast.FunctionDef) else node.targets[0].id
                    many = len(re.findall(rf"\b{name}\b", text))
                    self.assertTrue(many > 1 or re.search(rf"\b{path.stem} {name} ", spec), (path, name))

    def test_module_level(self):
        for path, tree in trees():
            names = []
            for node in tree.body:
                if isinstance(node, ast.Expr):
                    self.assertIsInstance(node.value, ast.Constant)
                elif isinstance(node, ast.Assign):
                    self.assertEqual(len(node.targets), 1, path)
                    told = ast.literal_eval(node.value)
                    self.assertIsInstance(told, (int, str, tuple, dict), path)
                    if isinstance(told, dict):
                        self.assertTrue(all(isinstance(one, (int, str, tuple)) for one in told.values()), path)
                    names.append(node.targets[0].id)
                else:
                    self.assertIsInstance(node, (ast.ImportFrom, ast.FunctionDef, ast.ClassDef), path)
                    if not isinstance(node, ast.ImportFrom):
                        names.append(node.name)
            self.assertEqual(len(names), len(set(names)), path)

    def test_statements_and_expressions(self):
        for path, tree in trees():
            for node in ast.walk(tree):
                if isinstance(node, ast.stmt):
                    self.assertIsInstance(node, STATEMENTS, (path, node.lineno))
                self.assertNotIsInstance(node, NO_EXPRESSIONS, (path, getattr(node, "lineno", 0)))
                if isinstance(node, ast.Constant):
                    self.assertNotIsInstance(node.value, (float, complex), path)
                if isinstance(node, ast.BinOp):
                    self.assertNotIsInstance(node.op, (ast.Div, ast.Pow, ast.MatMult), (path, node.lineno))
                if isinstance(node, ast.Compare):
                    for sign, other in zip(node.ops, node.comparators):
                        if isinstance(sign, (ast.Is, ast.IsNot)):
                            self.assertIsInstance(other, ast.Constant, (path, node.lineno))
                if isinstance(node, ast.FunctionDef):
                    self.assertTrue(all(isinstance(one, ast.Name) and one.id == "property"
                                        for one in node.decorator_list), (path, node.name))
                if isinstance(node, ast.ClassDef):
                    self.assertFalse(node.decorator_list or node.keywords, (path, node.name))
                if isinstance(node, ast.Try):
                    self.assertTrue(all(isinstance(one.type, ast.Name) and one.type.id.startswith(("Bad", "No", "KitError"))
                                        for one in node.handlers), (path, node.lineno))
                if isinstance(node, ast.With):
                    self.assertTrue(all(isinstance(one.context_expr, ast.Name) for one in node.items), (path, node.lineno))
                if isinstance(node, ast.Raise) and node.exc is not None:
                    self.assertIsInstance(node.exc, ast.Call, (path, node.lineno))
                if isinstance(node, ast.Lambda):
                    self.assertEqual(len(node.args.args), 1, (path, node.lineno))

    def test_calls(self):
        methods = set().union(*[own_methods(tree) for _, tree in trees()])
        for path, tree in trees():
            own = {node.name for node in ast.walk(tree) if isinstance(node, (ast.FunctionDef, ast.ClassDef))}
            own |= {alias.name for node in tree.body if isinstance(node, ast.ImportFrom) for alias in node.names}
            for node in ast.walk(tree):
                if not isinstance(node, ast.Call):
                    continue
                where = (path, node.lineno)
                keywords = {word.arg for word in node.keywords}
                if isinstance(node.func, ast.Name):
                    name = node.func.id
                    self.assertTrue(name in own | passed_functions(tree) or name in BUILTINS, where + (name,))
                    if name in TAKES_LIST:
                        self.assertNotIsInstance(node.args[0], ast.GeneratorExp, where)
                        self.assertFalse(any(isinstance(one, ast.Starred) for one in node.args), where)
                        self.assertLessEqual(keywords, {"key", "reverse", "default", "start"}, where)
                    elif name in BUILTINS:
                        self.assertFalse(keywords, where)
                    for one in node.args:
                        if isinstance(one, ast.Starred):
                            self.assertIsInstance(one.value, (ast.Name, ast.Attribute), where)
                elif isinstance(node.func, ast.Attribute):
                    self.assertIn(node.func.attr, methods | set(METHODS) | {"__init__"}, where)
                    self.assertNotEqual(node.func.attr, "sort", where)
                    if node.func.attr in METHODS:
                        self.assertFalse(keywords, where)
                else:
                    self.fail(where)

    def test_sets_stand_where_they_may(self):
        for path, tree in trees():
            allowed = set()
            for node in ast.walk(tree):
                if isinstance(node, ast.Call) and isinstance(node.func, ast.Name) and node.func.id in ("sorted", "len"):
                    if not node.keywords:
                        allowed.add(id(node.args[0]))
                if isinstance(node, ast.Compare):
                    allowed |= {id(one) for one in node.comparators}
            for node in ast.walk(tree):
                makes = isinstance(node, ast.Call) and isinstance(node.func, ast.Name) and node.func.id == "set"
                if makes or isinstance(node, (ast.Set, ast.SetComp)):
                    self.assertIn(id(node), allowed, (path, node.lineno))

    def test_iterated_on_the_spot(self):
        for path, tree in trees():
            allowed = set()
            for node in ast.walk(tree):
                if isinstance(node, (ast.For, ast.comprehension)):
                    allowed.add(id(node.iter))
                if isinstance(node, ast.Call) and isinstance(node.func, ast.Name):
                    if node.func.id in ("list", "tuple", "dict", "sorted", "enumerate", "combinations", "permutations"):
                        allowed.add(id(node.args[0]))
            for node in ast.walk(tree):
                if isinstance(node, ast.Call):
                    name = getattr(node.func, "id", getattr(node.func, "attr", ""))
                    if name in ("zip", "enumerate", "reversed", "range", "items", "keys", "values", "map", "product",
                                "combinations", "permutations"):
                        self.assertIn(id(node), allowed, (path, node.lineno))

    def test_names(self):
        for path, tree in trees():
            for name in bound_names(tree):
                self.assertNotIn(name, NEVER, path)
                self.assertTrue(name in DOUBLE or not hasattr(builtins, name), (path, name))
                self.assertRegex(name, r"^(_|_?[A-Za-z][A-Za-z0-9_]*|__[a-z]+__)$", path)
                if name.startswith("__"):
                    self.assertIn(name, DOUBLE, path)
                self.assertFalse(name.startswith(("_wall", "_pe_", "_dcw_", "_enum_", "_cm_", "_lay_", "_law_", "_stub_")))
            for node in ast.walk(tree):
                if isinstance(node, ast.Name) and node.id == "_":
                    self.assertNotIsInstance(node.ctx, ast.Load, (path, node.lineno))
                if isinstance(node, ast.Attribute):
                    self.assertNotIn(node.attr, ["format", "format_map", "mro", "args"], (path, node.lineno))

    def test_attributes_and_methods(self):
        stored, methods, read = set(), set(), set()
        for path, tree in trees():
            methods |= own_methods(tree)
            for node in ast.walk(tree):
                if isinstance(node, ast.Attribute):
                    self.assertIsInstance(node.value, (ast.Name, ast.Attribute, ast.Call, ast.Subscript, ast.Constant,
                                                       ast.BinOp, ast.UnaryOp), path)
                    (stored if isinstance(node.ctx, ast.Store) else read).add(node.attr)
        self.assertFalse(stored & methods)
        self.assertFalse(stored & set(METHODS))
        self.assertLessEqual(read, stored | methods | set(METHODS) | {"__class__", "__name__"})

    def test_names_of_classes(self):
        for path, tree in trees():
            whole = {id(node.value) for node in ast.walk(tree) if isinstance(node, ast.Attribute) and node.attr == "__name__"}
            told = {id(node) for node in ast.walk(tree) if isinstance(node, ast.Attribute) and node.attr == "__class__"}
            self.assertEqual(whole, told, path)
            for node in ast.walk(tree):
                if id(node) in told:
                    self.assertIsInstance(node.value, (ast.Name, ast.Attribute), path)

    def test_exits(self):
        rows = (ast.Pass, ast.Return, ast.Assign, ast.If, ast.Expr)
        for path, tree in trees():
            for node in ast.walk(tree):
                if isinstance(node, ast.FunctionDef) and node.name == "__exit__":
                    for one in ast.walk(node):
                        if isinstance(one, ast.stmt) and one is not node:
                            self.assertIsInstance(one, rows, path)
                        self.assertNotIsInstance(one, (ast.Subscript, ast.Call), path)

    def test_strings(self):
        for path, tree in trees():
            told = docstrings(tree)
            text = path.read_text()
            code = "\n".join(row for row in text.split("\n") if not row.strip().startswith("#"))
            for node in told:
                code = code.replace(ast.get_source_segment(text, node), "")
            for word in WORDS:
                self.assertNotRegex(code, rf"\b{word}\b", path)
            self.assertNotIn("_wall", text)
            self.assertNotIn("_WallAttr", text)
            for node in ast.walk(tree):
                if isinstance(node, ast.Constant) and isinstance(node.value, str):
                    self.assertNotIn("%", node.value, (path, node.lineno))
                    self.assertFalse(node.value.endswith(("._", ".__")), (path, node.lineno))
                if isinstance(node, ast.JoinedStr):
                    self.assertEqual(node.lineno, node.end_lineno, path)
            self.assertNotRegex(text, r"\\[^nt\\\"']", path)


if __name__ == "__main__":
    unittest.main()
