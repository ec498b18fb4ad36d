"""What can be seen at a glance of the rules for the package's files."""

import ast
import builtins
import pathlib
import re
import unittest
import warnings

from calm_calls import Told, calm_faults, is_property
from calm_examples import CALM_EXAMPLES, NOT_CALM, SHOP

ROOT = pathlib.Path(__file__).resolve().parent.parent
PACKAGE = ROOT / "textmovers"
FILES = sorted(path for path in PACKAGE.rglob("*") if path.is_file() and "__pycache__" not in path.parts)

LIBRARY = {
    "heapq": {"heappush", "heappop", "heapify", "heapreplace", "heappushpop"},
    "math": {"gcd", "lcm", "isqrt", "comb", "perm", "factorial"},
    "itertools": {"product", "combinations", "permutations"},
}

# L8, without chr (L27) and without what only __main__.py may use.
BUILTINS = set("""
    len range enumerate zip min max sum abs sorted reversed int str bool bytes list tuple dict set frozenset isinstance
    ord repr any all divmod iter next map Exception ValueError TypeError KeyError IndexError LookupError
    ZeroDivisionError ArithmeticError OverflowError RuntimeError NotImplementedError AttributeError StopIteration
    NotImplemented property staticmethod classmethod super
""".split())

# L25, and the modules' own methods beside them.
METHODS = set("""
    append clear copy count endswith extend find get index insert isalnum isalpha isdigit islower isspace isupper items
    join keys ljust lower lstrip partition pop remove replace reverse rfind rjust rpartition rsplit rstrip setdefault
    split splitlines startswith strip update upper values zfill bit_length title capitalize swapcase casefold center
    expandtabs removeprefix removesuffix rindex isascii isdecimal isnumeric istitle isidentifier isprintable translate
    add discard
""".split())

DUNDERS = set("""
    __init__ __eq__ __repr__ __str__ __len__ __enter__ __exit__ __call__ __iter__ __lt__ __le__ __gt__ __ge__ __ne__
    __add__ __sub__ __mul__ __floordiv__ __mod__ __pow__ __and__ __or__ __xor__ __lshift__ __rshift__ __neg__ __pos__
    __invert__ __abs__ __bool__ __contains__ __getitem__ __setitem__
""".split())

# L17: nowhere; not as names, but as attributes; in no file but in comments and docstrings.
NOWHERE = set("register mro elements open input law version_info with_traceback add_note".split())
NO_NAMES = set("""
    attrgetter breakpoint builtins compile copyright credits delattr dir eval exec exit gc getattr globals hasattr help
    id importlib license locals methodcaller os quit setattr super type vars sys __name__
""".split())
NO_WORDS = set("""
    type typing typing_extensions enum Enum IntEnum StrEnum Flag IntFlag Generic Protocol ABC ABCMeta namedtuple
    NamedTuple TypedDict TYPE_CHECKING abstractmethod
""".split())
NO_PARTS = ("dataclass", "overload", "contextmanager")

NO_FILES = {"test", "tests", "testing", "site", "conftest", "sitecustomize", "usercustomize", "heapq", "math",
            "itertools"}


def parsed(path):
    return ast.parse(path.read_text(encoding="utf-8"))


def dotted(path):
    """The name by which the file is imported."""
    parts = path.relative_to(ROOT).with_suffix("").parts
    return ".".join(parts[:-1] if parts[-1] == "__init__" else parts)


def bound_names(tree):
    """The names that are given to variables, parameters, functions, classes and caught errors."""
    for node in ast.walk(tree):
        if isinstance(node, ast.Name) and isinstance(node.ctx, ast.Store):
            yield node.id
        elif isinstance(node, (ast.FunctionDef, ast.ClassDef)):
            yield node.name
        elif isinstance(node, ast.arg):
            yield node.arg
        elif isinstance(node, ast.ExceptHandler) and node.name:
            yield node.name


def docstrings(tree):
    """The nodes that are docstrings."""
    for node in ast.walk(tree):
        if isinstance(node, (ast.Module, ast.ClassDef, ast.FunctionDef)) and node.body:
            first = node.body[0]
            if isinstance(first, ast.Expr) and isinstance(first.value, ast.Constant):
                yield first.value


def defined(tree):
    """The names that a file defines at module level."""
    for node in tree.body:
        if isinstance(node, (ast.FunctionDef, ast.ClassDef)):
            yield node.name
        elif isinstance(node, ast.Assign):
            yield from (target.id for target in node.targets if isinstance(target, ast.Name))


TREES = {path: parsed(path) for path in FILES if path.suffix == ".py"}
MODULES = {dotted(path): tree for path, tree in TREES.items()}
OWN_METHODS = {
    node.name
    for tree in TREES.values() for owner in ast.walk(tree) if isinstance(owner, ast.ClassDef)
    for node in owner.body if isinstance(node, ast.FunctionDef)
}


class Language(unittest.TestCase):

    def test_there_are_files(self):
        self.assertIn("textmovers.errors", MODULES)
        self.assertLessEqual(len(FILES), 100)

    def test_l1_l14_files(self):
        for path in FILES:
            self.assertEqual(path.suffix, ".py")
            self.assertRegex(path.stem, "^([a-z][a-z0-9_]*|__init__|__main__)$")
            self.assertNotIn(path.stem, NO_FILES | NO_WORDS | NOWHERE | set(dir(builtins)))
            self.assertFalse(path.stem.startswith(("law_", "test_")))
            self.assertFalse(path.with_suffix("").is_dir())
            self.assertTrue((path.parent / "__init__.py").is_file())

    def test_l10_sizes(self):
        for path, tree in TREES.items():
            with self.subTest(file=str(path.relative_to(ROOT))):
                lines = path.read_text(encoding="utf-8").split("\n")
                self.assertLessEqual(len(lines), 399)
                self.assertLessEqual(max(len(line) for line in lines), 120)
                for node in ast.walk(tree):
                    if isinstance(node, ast.FunctionDef):
                        self.assertLessEqual(node.end_lineno - node.lineno + 1, 40, node.name)

    def test_l14_characters(self):
        for path, tree in TREES.items():
            with self.subTest(file=str(path.relative_to(ROOT))):
                self.assertEqual([sign for sign in path.read_bytes() if not (32 <= sign <= 126 or sign == 10)], [])

    def test_no_warnings(self):
        for path, tree in TREES.items():
            with self.subTest(file=str(path.relative_to(ROOT))):
                with warnings.catch_warnings():
                    warnings.simplefilter("error")
                    compile(path.read_text(encoding="utf-8"), str(path), "exec")

    def test_l2_l16_imports(self):
        for path, tree in TREES.items():
            with self.subTest(file=str(path.relative_to(ROOT))):
                found = [node for node in ast.walk(tree) if imports(node)]
                docstring = 0 if tree.body and imports(tree.body[0]) else 1
                self.assertEqual(found, tree.body[docstring:docstring + len(found)], "imports stand at the top")
                for node in found:
                    self.import_is_right(path, node)

    def import_is_right(self, path, node):
        self.assertIsInstance(node, ast.ImportFrom)
        self.assertEqual(node.level, 0)
        names = {alias.name for alias in node.names}
        self.assertEqual([alias.asname for alias in node.names if alias.asname], [])
        if node.module in LIBRARY:
            self.assertLessEqual(names, LIBRARY[node.module])
        elif node.module == "__future__":
            self.assertEqual(names, {"annotations"})
        else:
            self.assertIn(node.module, MODULES)
            self.assertNotEqual(node.module, dotted(path))
            self.assertLessEqual(names, set(defined(MODULES[node.module])))

    def test_l16_no_circles(self):
        ahead = {
            name: {node.module for node in tree.body if isinstance(node, ast.ImportFrom)} for name, tree in MODULES.items()
        }
        left = dict(ahead)
        while left:
            free = [name for name, needs in left.items() if not needs & set(left)]
            self.assertTrue(free, f"files that import from each other: {sorted(left)}")
            left = {name: needs for name, needs in left.items() if name not in free}

    def test_l3_module_level(self):
        for path, tree in TREES.items():
            with self.subTest(file=str(path.relative_to(ROOT))):
                names = list(defined(tree))
                self.assertEqual(len(names), len(set(names)))
                for at, node in enumerate(tree.body):
                    docstring = at == 0 and isinstance(node, ast.Expr) and isinstance(node.value, ast.Constant)
                    plain = isinstance(node, ast.Assign) and len(node.targets) == 1 and isinstance(node.targets[0], ast.Name)
                    self.assertTrue(
                        docstring or plain or imports(node) or isinstance(node, (ast.FunctionDef, ast.ClassDef))
                    )

    def test_l4_l6_statements(self):
        barred = (ast.Global, ast.AsyncFunctionDef, ast.AsyncFor, ast.AsyncWith, ast.Await, ast.Div)
        for path, tree in TREES.items():
            with self.subTest(file=str(path.relative_to(ROOT))):
                for node in ast.walk(tree):
                    self.assertNotIsInstance(node, barred)
                    if isinstance(node, ast.Constant):
                        self.assertNotIsInstance(node.value, (float, complex))
                    if isinstance(node, ast.FunctionDef):
                        told = [ast.unparse(one) for one in node.decorator_list]
                        self.assertLessEqual(set(told), {"property", "classmethod", "staticmethod", f"{node.name}.setter"})

    def test_l5_double_underscores(self):
        for path, tree in TREES.items():
            with self.subTest(file=str(path.relative_to(ROOT))):
                for name in bound_names(tree):
                    self.assertTrue(not name.startswith("__") or name in DUNDERS, name)
                    self.assertRegex(name, "^(_|_?[A-Za-z][A-Za-z0-9_]*|__[a-z]+__)$")

    def test_l8_builtins(self):
        for path, tree in TREES.items():
            with self.subTest(file=str(path.relative_to(ROOT))):
                used = {node.id for node in ast.walk(tree) if isinstance(node, ast.Name) and isinstance(node.ctx, ast.Load)}
                self.assertEqual(used & set(dir(builtins)) - BUILTINS, set())

    def test_l15_names_of_builtins_and_imports(self):
        for path, tree in TREES.items():
            with self.subTest(file=str(path.relative_to(ROOT))):
                taken = {alias.name for node in tree.body if imports(node) for alias in node.names}
                taken |= {node.name for node in tree.body if isinstance(node, ast.ClassDef)}
                local = [name for node in ast.walk(tree) if isinstance(node, ast.FunctionDef) for name in inner_names(node)]
                self.assertEqual(set(local) & taken, set())
                methods = {node.name for node in ast.walk(tree) if isinstance(node, ast.FunctionDef)}
                self.assertEqual((set(bound_names(tree)) - methods) & set(dir(builtins)), set())

    def test_l17_words(self):
        for path, tree in TREES.items():
            with self.subTest(file=str(path.relative_to(ROOT))):
                skipped = {id(node) for node in docstrings(tree)}
                names = set(bound_names(tree))
                attributes = {node.attr for node in ast.walk(tree) if isinstance(node, ast.Attribute)}
                self.assertEqual((names | attributes) & NOWHERE, set())
                self.assertEqual(names & NO_NAMES, set())
                strings = [
                    node.value for node in ast.walk(tree)
                    if isinstance(node, ast.Constant) and isinstance(node.value, str) and id(node) not in skipped
                ]
                loaded = {node.id for node in ast.walk(tree) if isinstance(node, ast.Name)}
                words = names | attributes | loaded | set(re.findall("[A-Za-z_]+", " ".join(strings)))
                self.assertEqual(words & NO_WORDS, set())
                for part in NO_PARTS:
                    self.assertNotIn(part, path.read_text(encoding="utf-8"))

    def test_l25_methods(self):
        for path, tree in TREES.items():
            with self.subTest(file=str(path.relative_to(ROOT))):
                for node in ast.walk(tree):
                    if isinstance(node, ast.Call) and isinstance(node.func, ast.Attribute):
                        self.assertIn(node.func.attr, METHODS | OWN_METHODS)

    def test_l5_names_of_properties(self):
        told = Told(list(TREES.values()))
        self.assertLessEqual({"letters", "rows", "ring", "words"}, told.properties)
        kept = {node.attr for tree in TREES.values() for node in ast.walk(tree) if isinstance(node, ast.Attribute) and stored(node)}
        self.assertEqual(told.properties & (kept | BUILTIN_METHODS), set())
        for name in told.properties:
            self.assertTrue(all(is_property(node) for node in told.methods[name]), name)

    def test_l26_names_of_methods_and_attributes(self):
        self.assertLessEqual(OWN_METHODS & BUILTIN_METHODS - DUNDERS, METHODS)
        kept = {node.attr for tree in TREES.values() for node in ast.walk(tree) if isinstance(node, ast.Attribute) and stored(node)}
        self.assertLessEqual(kept & BUILTIN_METHODS, set("count index title find get join lower upper split strip copy add".split()))

    def test_l5_what_is_sorted_is_plain(self):
        for path, tree in TREES.items():
            with self.subTest(file=str(path.relative_to(ROOT))):
                for node in ast.walk(tree):
                    if isinstance(node, ast.Call) and isinstance(node.func, ast.Name) and node.func.id in ("sorted", "min", "max"):
                        one = len(node.args) == 1
                        self.assertTrue(are_plain(node.args[0]) if one else any(map(is_plain, node.args)), ast.unparse(node))

    def test_l7_lists_for_any_and_the_like(self):
        for path, tree in TREES.items():
            with self.subTest(file=str(path.relative_to(ROOT))):
                for node in ast.walk(tree):
                    if isinstance(node, ast.Call) and isinstance(node.func, ast.Name) and node.func.id in ("any", "all"):
                        self.assertIsInstance(node.args[0], ast.ListComp, ast.unparse(node))
                    self.assertNotIsInstance(node, ast.GeneratorExp)

    def test_l23_what_is_gone_over_is_not_changed(self):
        for path, tree in TREES.items():
            with self.subTest(file=str(path.relative_to(ROOT))):
                for node in ast.walk(tree):
                    if isinstance(node, ast.For):
                        gone = gone_over(node.iter)
                        for inner in (inner for row in node.body for inner in ast.walk(row)):
                            self.assertEqual(changed(inner) & gone, set(), ast.unparse(node.iter))
                    elif isinstance(node, (ast.ListComp, ast.DictComp, ast.SetComp)):
                        self.assertEqual(set().union(*map(changed, ast.walk(node))), set(), ast.unparse(node))

    def test_l5_what_operators_and_properties_may_do(self):
        trees = list(TREES.values())
        roots = {function.name for function in Told(trees).roots()}
        self.assertLessEqual({"__invert__", "__mul__", "__lt__", "__eq__", "__str__", "__len__", "rows", "is_idle"}, roots)
        self.assertEqual(calm_faults(trees), [])

    def test_l5_the_check_sees_what_they_may_not_do(self):
        for what, examples in NOT_CALM.items():
            for told in examples:
                with self.subTest(what=what, told=told):
                    self.assertEqual([fault for _, _, fault in calm_faults([ast.parse(told)])], [what])

    def test_l5_the_check_lets_what_they_may_do(self):
        for told in CALM_EXAMPLES:
            with self.subTest(told=told):
                self.assertEqual(calm_faults([ast.parse(told)]), [])

    def test_l5_the_check_reads_by_names_over_all_files(self):
        table = ast.parse("class Table:\n    def __init__(self):\n        self._rows = []\n"
                          "    def undone(self, row):\n        self._rows.append(row)\n        return row")
        move = ast.parse("class Move:\n    def __init__(self):\n        self._row = 1\n"
                         "    def undone(self):\n        return -self._row\n"
                         "    def __invert__(self):\n        return self.undone()")
        self.assertEqual(calm_faults([move]), [])
        self.assertEqual(calm_faults([table]), [])
        self.assertEqual(calm_faults([table, move]), [("undone", 5, "change")])
        renamed = ast.parse(ast.unparse(table).replace("def undone", "def undone_number"))
        self.assertEqual(calm_faults([renamed, move]), [])

    def test_l5_the_check_holds_for_shops_and_endless_texts(self):
        for method in ("__getitem__(self, at)", "__contains__(self, at)", "__len__(self)", "__eq__(self, at)",
                       "__str__(self)", "__lt__(self, at)"):
            told = SHOP.replace("METHOD", method)
            self.assertEqual(calm_faults([ast.parse(told)]), [("looked", 6, "attribute")], method)
        told = SHOP.replace("    def METHOD", "    @property\n    def seen(self)")
        self.assertEqual(calm_faults([ast.parse(told)]), [("looked", 6, "attribute")])
        self.assertEqual(calm_faults([ast.parse(SHOP.replace("METHOD", "seen(self)"))]), [])

    def test_l27_strings_and_powers(self):
        for path, tree in TREES.items():
            with self.subTest(file=str(path.relative_to(ROOT))):
                for node in ast.walk(tree):
                    if isinstance(node, ast.Constant) and isinstance(node.value, str):
                        self.assertNotIn("%", node.value)
                    if isinstance(node, ast.BinOp) and isinstance(node.op, ast.Pow):
                        self.assertIsInstance(node.right, ast.Constant)
                        self.assertLessEqual(node.right.value, 64)
                for mark in re.findall(r"\\(.)", path.read_text(encoding="utf-8")):
                    self.assertIn(mark, "nt\\'\"")


BUILTIN_METHODS = {
    name for kind in (str, bytes, int, list, dict, set, tuple) for name in dir(kind) if not name.startswith("__")
}
CHANGES = set("append extend insert pop remove clear reverse setdefault update sort add discard".split())


def stored(node):
    return isinstance(node.ctx, ast.Store)


def is_plain(node):
    """Whether this is plainly a number or a string (L5 Operators)."""
    if isinstance(node, ast.Constant):
        return isinstance(node.value, (int, str))
    if isinstance(node, ast.BinOp):
        return is_plain(node.left) and is_plain(node.right)
    if isinstance(node, ast.Call) and isinstance(node.func, ast.Name):
        return node.func.id in ("len", "int", "ord", "str", "repr")
    return isinstance(node, ast.JoinedStr) or isinstance(node, ast.UnaryOp) and is_plain(node.operand)


def are_plain(node):
    """Whether these are plainly numbers or strings."""
    if isinstance(node, ast.ListComp):
        return is_plain(node.elt)
    if isinstance(node, (ast.List, ast.Tuple)):
        return all(map(is_plain, node.elts))
    return isinstance(node, ast.Call) and isinstance(node.func, ast.Name) and node.func.id == "range"


def names_in(node):
    """The names and attributes by which something is told, self left out."""
    names = {inner.id for inner in ast.walk(node) if isinstance(inner, ast.Name)} - {"self"}
    return names | {inner.attr for inner in ast.walk(node) if isinstance(inner, ast.Attribute)}


def gone_over(node):
    """What a loop goes over, if it is no new list and no range."""
    if isinstance(node, ast.Call) and isinstance(node.func, ast.Name):
        if node.func.id in ("list", "range", "sorted"):
            return set()
        return set().union(*map(gone_over, node.args)) if node.func.id in ("enumerate", "zip", "reversed") else set()
    if isinstance(node, ast.Subscript) and isinstance(node.slice, ast.Slice):
        return set()
    return names_in(node)


def changed(node):
    """What a statement or a call changes by a method, an item or a heap."""
    if isinstance(node, ast.Subscript) and not isinstance(node.ctx, ast.Load):
        return names_in(node.value)
    if isinstance(node, ast.Call) and isinstance(node.func, ast.Attribute) and node.func.attr in CHANGES:
        return names_in(node.func.value)
    if isinstance(node, ast.Call) and isinstance(node.func, ast.Name) and node.func.id in LIBRARY["heapq"]:
        return names_in(node.args[0])
    return set()


def imports(node):
    return isinstance(node, (ast.Import, ast.ImportFrom))


def inner_names(function):
    """The names of the parameters, variables and nested functions of a function."""
    yield from (name for node in function.body for name in bound_names(node))
    yield from bound_names(function.args)
