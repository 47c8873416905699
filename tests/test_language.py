"""Some rules of the language of the package that can be seen in its files, by their numbers."""

import ast
import builtins
import pathlib
import re
import types
import unittest
import warnings

PACKAGE = pathlib.Path(__file__).resolve().parent.parent / "timekernel"
FILES = sorted(PACKAGE.glob("*.py"))
LIBRARY = {
    "heapq": {"heappush", "heappop", "heapify", "heapreplace", "heappushpop"},
    "math": {"gcd", "lcm", "isqrt", "comb", "perm", "factorial"},
    "itertools": {"product", "combinations", "permutations", "chain", "accumulate", "pairwise", "islice",
                  "zip_longest"},
    "collections": {"defaultdict", "deque"},
}
BUILTINS = set("""len range enumerate zip min max sum abs sorted reversed int str bool bytes list tuple dict set
frozenset isinstance ord repr any all divmod pow getattr hasattr setattr Exception ValueError TypeError KeyError
IndexError LookupError ZeroDivisionError ArithmeticError OverflowError RuntimeError NotImplementedError
AttributeError StopIteration NotImplemented iter next map type property staticmethod classmethod super
object""".split())
UNUSED_NAMES = set("register mro elements open input law version_info with_traceback add_note".split())
UNUSED_WORDS = set("""typing typing_extensions enum Enum IntEnum StrEnum Flag IntFlag Generic Protocol ABC ABCMeta
namedtuple NamedTuple TypedDict TYPE_CHECKING abstractmethod""".split())
BARRED_ATTRIBUTES = set("""items keys values pop update append clear extend insert remove reverse setdefault sort args
encode decode hex fromhex format format_map mro""".split())
VALUE_METHODS = set("""append clear copy count endswith extend find get index insert isalnum isalpha isdigit islower
isspace isupper items join keys ljust lower lstrip partition pop remove replace reverse rfind rjust rpartition rsplit
rstrip setdefault split splitlines startswith strip update upper values zfill bit_length title capitalize swapcase
casefold center expandtabs removeprefix removesuffix rindex isascii isdecimal isnumeric istitle isidentifier
isprintable""".split())
# All that values of Python's own have: also what a range, a slice or a generator has.
OF_VALUES = {name for kind in [*vars(builtins).values(), *vars(types).values()] if isinstance(kind, type)
             for name in dir(kind)}
STATEMENTS = (ast.ImportFrom, ast.FunctionDef, ast.ClassDef, ast.Assign)


def trees():
    return [(path.name, ast.parse(path.read_text(encoding="ascii"))) for path in FILES]


TREES = trees()


def nodes(kind):
    return [(name, node) for name, tree in trees() for node in ast.walk(tree) if isinstance(node, kind)]


def bound_names(tree):
    """All names that a file gives to something of its own."""
    found = []
    for node in ast.walk(tree):
        if isinstance(node, ast.arg):
            found.append(node.arg)
        elif isinstance(node, ast.Name) and not isinstance(node.ctx, ast.Load):
            found.append(node.id)
        elif isinstance(node, (ast.FunctionDef, ast.ClassDef)):
            found.append(node.name)
    return found


def is_docstring(node):
    return isinstance(node, ast.Expr) and isinstance(node.value, ast.Constant) and isinstance(node.value.value, str)


class Files(unittest.TestCase):
    def test_l1_only_plain_files(self):
        self.assertTrue((PACKAGE / "__init__.py").is_file())
        others = [path.name for path in PACKAGE.iterdir() if path not in FILES and path.name != "__pycache__"]
        self.assertEqual(others, [])
        for path in FILES:
            self.assertRegex(path.name, r"\A([a-z][a-z0-9_]*|__init__)\.py\Z")

    def test_l10_l14_size_and_characters(self):
        for path in FILES:
            text = path.read_bytes().decode("ascii")
            self.assertRegex(text, r"\A[ -~\n]*\Z", path.name)
            lines = text.splitlines()
            self.assertLessEqual(len(lines), 399, path.name)
            self.assertLessEqual(max(map(len, lines)), 120, path.name)
        for name, node in nodes(ast.FunctionDef):
            self.assertLessEqual(node.end_lineno - node.lineno + 1, 40, (name, node.name))

    def test_l27_no_warnings(self):
        for path in FILES:
            with warnings.catch_warnings():
                warnings.simplefilter("error")
                compile(path.read_text(encoding="ascii"), path.name, "exec")


class Statements(unittest.TestCase):
    def test_l2_l16_imports(self):
        places = {}
        for name, tree in trees():
            places["timekernel." + name[:-3]] = {node.name for node in tree.body if hasattr(node, "name")} | {
                node.targets[0].id for node in tree.body if isinstance(node, ast.Assign)}
        places.update(LIBRARY)
        self.assertEqual(nodes(ast.Import), [])
        for name, node in nodes(ast.ImportFrom):
            self.assertEqual(node.level, 0, name)
            for alias in node.names:
                self.assertIn(alias.name, places.get(node.module, ()), name)

    def test_l16_no_circles(self):
        needs = {"timekernel." + name[:-3]: {node.module for node in tree.body if isinstance(node, ast.ImportFrom)}
                 for name, tree in trees()}
        free = set()
        while needs:
            ready = [name for name in needs if needs[name] <= free | set(LIBRARY)]
            self.assertTrue(ready, needs)
            free |= set(ready)
            needs = {name: needs[name] for name in needs if name not in ready}

    def test_l3_l15_module_level(self):
        for name, tree in trees():
            body = tree.body[1:] if tree.body and is_docstring(tree.body[0]) else tree.body
            bound = []
            for node in body:
                self.assertIsInstance(node, STATEMENTS, name)
                if isinstance(node, ast.Assign):
                    self.assertEqual([type(target) for target in node.targets], [ast.Name], name)
                    bound.append(node.targets[0].id)
                elif isinstance(node, ast.ImportFrom):
                    bound.extend(alias.asname or alias.name for alias in node.names)
                else:
                    bound.append(node.name)
            self.assertEqual(len(bound), len(set(bound)), name)

    def test_l6_l7_what_is_not_used(self):
        unused = (ast.AsyncFunctionDef, ast.AsyncFor, ast.AsyncWith, ast.Await, ast.Div, ast.Global)
        self.assertEqual(nodes(unused), [])
        for name, node in nodes(ast.Constant):
            self.assertNotIsInstance(node.value, (float, complex), name)
            if isinstance(node.value, str):
                self.assertNotIn(chr(37), node.value, name)


    def test_l18_attributes_are_assigned_through_names(self):
        for name, node in nodes(ast.Attribute):
            if not isinstance(node.ctx, ast.Load):
                self.assertIsInstance(node.value, ast.Name, (name, node.lineno))

    def test_l18_l26_names_of_attributes(self):
        methods = {node.name: [part.name for part in node.body if isinstance(part, ast.FunctionDef)]
                   for _, node in nodes(ast.ClassDef)}
        taken = {name for names in methods.values() for name in names} | BARRED_ATTRIBUTES
        for name, node in nodes(ast.Attribute):
            if isinstance(node.ctx, ast.Store):
                self.assertNotIn(node.attr, taken, (name, node.lineno))
        for names in methods.values():
            self.assertEqual(len(names), len(set(names)))

    def test_l22_l25_methods_that_are_called(self):
        own = {part.name for _, node in nodes(ast.ClassDef) for part in node.body if isinstance(part, ast.FunctionDef)}
        for name, node in nodes(ast.Call):
            if isinstance(node.func, ast.Attribute):
                self.assertIn(node.func.attr, own | VALUE_METHODS, (name, node.lineno))
                if node.func.attr in VALUE_METHODS:
                    self.assertEqual(node.keywords, [], (name, node.lineno))

    def test_l25_methods_as_values(self):
        """Those that are read without a call have no name that values of Python's own have."""
        self.assertLess(VALUE_METHODS | {"start", "stop", "step", "send"}, OF_VALUES)
        own = {part.name for _, node in nodes(ast.ClassDef) for part in node.body if isinstance(part, ast.FunctionDef)}
        called = {id(node.func) for _, tree in TREES for node in ast.walk(tree) if isinstance(node, ast.Call)}
        for name, node in [(name, node) for name, tree in TREES for node in ast.walk(tree)]:
            if isinstance(node, ast.Attribute) and node.attr in own and id(node) not in called:
                self.assertNotIn(node.attr, OF_VALUES, (name, node.lineno))

    def test_l13_lambdas(self):
        for name, tree in trees():
            lines = [(node.lineno, ast.unparse(node.args)) for node in ast.walk(tree) if isinstance(node, ast.Lambda)]
            self.assertEqual(len(lines), len(set(lines)), name)

    def test_l20_l24_is_and_sets(self):
        for name, node in nodes(ast.Compare):
            for sign, side in zip(node.ops, node.comparators):
                if isinstance(sign, (ast.Is, ast.IsNot)):
                    self.assertIsInstance(side, ast.Constant, (name, node.lineno))
        self.assertEqual(nodes((ast.Set, ast.SetComp, ast.GeneratorExp, ast.Yield, ast.YieldFrom, ast.Try)), [])


class Names(unittest.TestCase):
    def test_l8_builtins(self):
        for name, node in nodes(ast.Name):
            if hasattr(builtins, node.id):
                self.assertIn(node.id, BUILTINS, (name, node.lineno))

    def test_l15_no_second_meaning(self):
        for name, tree in trees():
            taken = {alias.asname or alias.name for node in ast.walk(tree) if isinstance(node, ast.ImportFrom)
                     for alias in node.names}
            taken |= {node.name for node in ast.walk(tree) if isinstance(node, ast.ClassDef)}
            classes = [node.name for node in ast.walk(tree) if isinstance(node, ast.ClassDef)]
            for bound in bound_names(tree):
                own_method = bound.startswith("__") and bound.endswith("__")
                self.assertTrue(own_method or not hasattr(builtins, bound), (name, bound))
                self.assertFalse(bound in taken and bound not in classes, (name, bound))

    def test_l17_names_and_words(self):
        for name, tree in trees():
            for bound in bound_names(tree):
                self.assertNotIn(bound, UNUSED_NAMES, name)
            for node in ast.walk(tree):
                words = [getattr(node, "id", ""), getattr(node, "attr", "")]
                self.assertEqual(UNUSED_WORDS & {word for text in words for word in re.findall(r"\w+", text)}, set())

    def test_l27_exponents(self):
        for name, node in nodes(ast.BinOp):
            if isinstance(node.op, ast.Pow):
                self.assertIsInstance(node.right, ast.Constant, (name, node.lineno))
                self.assertIn(node.right.value, range(65), (name, node.lineno))
