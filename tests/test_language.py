"""The files of the package against the rules of the language that a parser can see.

This is stricter than the rules in places: what the package has no need of is barred altogether.
"""

import ast
import builtins
import pathlib
import re
import unittest

PACKAGE = pathlib.Path(__file__).resolve().parent.parent / "leastplans"
LIBRARY = {
    "heapq": {"heappush", "heappop", "heapify", "heapreplace", "heappushpop"},
    "math": {"gcd", "lcm", "isqrt", "comb", "perm", "factorial"},
    "itertools": {"product", "combinations", "permutations"},
}
BUILTINS = set(
    "len range enumerate zip min max sum abs sorted reversed int str bool list tuple dict set "
    "isinstance ord any all divmod ValueError KeyError".split()
)
METHODS = set(
    "append clear copy count endswith extend find get index insert isalnum isalpha isdigit "
    "islower isspace isupper items join keys ljust lower lstrip partition pop remove replace "
    "reverse rfind rjust rpartition rsplit rstrip setdefault split splitlines startswith strip "
    "update upper values zfill bit_length".split()
)
BARRED_NAMES = set(
    "register mro elements open input law version_info with_traceback add_note attrgetter "
    "breakpoint builtins compile copyright credits delattr dir eval exec exit gc globals help id "
    "importlib license locals methodcaller os quit super type vars sys iter next".split()
)
BARRED_WORDS = re.compile(
    r"\b(type|typing|typing_extensions|enum|Enum|IntEnum|StrEnum|Flag|IntFlag|Generic|Protocol|"
    r"ABC|ABCMeta|namedtuple|NamedTuple|TypedDict|TYPE_CHECKING|abstractmethod|_wall|_WallAttr)\b"
    r"|dataclass|overload|contextmanager"
)
STATEMENTS = (
    ast.Assign, ast.AugAssign, ast.If, ast.While, ast.For, ast.Return, ast.Break, ast.Continue,
    ast.Pass, ast.Raise, ast.Assert, ast.Delete, ast.Expr, ast.Try, ast.FunctionDef,
)
BARRED_NODES = (
    ast.Global, ast.AsyncFunctionDef, ast.AsyncFor, ast.AsyncWith, ast.Await, ast.Lambda,
    ast.Yield, ast.YieldFrom, ast.Set, ast.Div, ast.MatMult, ast.NamedExpr, ast.AnnAssign,
    ast.With, ast.Match, ast.Nonlocal, ast.Import,
)
AT_ONCE = {"range", "zip", "enumerate", "reversed", "map"}
VIEWS = {"items", "keys", "values"}
FIRST_TAKERS = {"list", "tuple", "dict", "sorted", "sum", "any", "all", "enumerate", "zip"}
TAKERS = FIRST_TAKERS | {"min", "max"}


class Source:
    """A file of the package, parsed."""

    def __init__(self, text):
        self.text = text
        self.tree = ast.parse(self.text)
        self.nodes = list(ast.walk(self.tree))
        self.parents = {}
        for node in self.nodes:
            for child in ast.iter_child_nodes(node):
                self.parents[child] = node

    def of(self, kind):
        return [node for node in self.nodes if isinstance(node, kind)]

    def imported(self):
        return [alias.name for node in self.of(ast.ImportFrom) for alias in node.names]

    def top(self, kinds):
        return [node.name for node in self.tree.body if isinstance(node, kinds)]

    def locals(self):
        """Names of parameters and of variables in functions."""
        found = set()
        for function in self.of(ast.FunctionDef):
            for node in ast.walk(function):
                if isinstance(node, ast.arg):
                    found.add(node.arg)
                if isinstance(node, ast.Name) and isinstance(node.ctx, (ast.Store, ast.Del)):
                    found.add(node.id)
                if isinstance(node, ast.FunctionDef) and node is not function:
                    found.add(node.name)
        return found

    def constants(self):
        found = [node for node in self.tree.body if isinstance(node, ast.Assign)]
        return [target.id for node in found for target in node.targets]

    def kept_rows(self):
        """The rows where a range, zip, view or the like is not iterated on the spot (L23)."""
        found = [node for node in self.of(ast.Call) if is_at_once(node)]
        return [node.lineno for node in found if not self.is_iterated(node)]

    def is_iterated(self, node):
        above = self.parents[node]
        word = node.func.attr if isinstance(node.func, ast.Attribute) else node.func.id
        if isinstance(above, (ast.For, ast.comprehension)):
            return above.iter is node
        if isinstance(above, ast.Compare):
            ends = isinstance(above.ops[-1], (ast.In, ast.NotIn)) and above.comparators[-1] is node
            return ends and word in ("range", "keys")
        if not isinstance(above, ast.Call) or node not in above.args[:1]:
            return False
        if isinstance(above.func, ast.Attribute):
            return above.func.attr == "join" and isinstance(above.func.value, ast.Constant)
        taker = above.func.id
        if taker in ("min", "max"):
            return len(above.args) == 1 and all(one.arg == "default" for one in above.keywords)
        if taker == "len":
            return word == "range" or word in VIEWS
        return taker in FIRST_TAKERS or taker == "reversed" and word == "range"


def is_at_once(node):
    """True for the calls that L23 lets be iterated on the spot alone."""
    if isinstance(node.func, ast.Attribute):
        return node.func.attr in VIEWS
    return isinstance(node.func, ast.Name) and node.func.id in AT_ONCE


SOURCES = {
    path.stem: Source(path.read_text(encoding="utf-8")) for path in sorted(PACKAGE.glob("*.py"))
}


def each_file(check):
    """A test that checks each file by itself."""
    def test(self):
        for name, source in SOURCES.items():
            with self.subTest(file=name):
                check(self, source)
    return test


class LanguageTest(unittest.TestCase):

    def test_files(self):
        for path in PACKAGE.iterdir():
            if path.name != "__pycache__":
                self.assertRegex(path.name, r"^(__init__|[a-z][a-z0-9_]*)\.py$")
        self.assertLessEqual(len(SOURCES), 100)
        self.assertFalse({name for name in SOURCES if name in dir(builtins)})

    @each_file
    def test_characters_and_sizes(self, source):
        self.assertRegex(source.text, r"^[ -~\n]*$")
        lines = source.text.split("\n")
        self.assertLessEqual(len(lines) - 1, 399)
        self.assertLessEqual(max(map(len, lines)), 120)
        for function in source.of(ast.FunctionDef):
            self.assertLessEqual(function.end_lineno - function.lineno + 1, 40)

    @each_file
    def test_imports(self, source):
        for node in source.of(ast.ImportFrom):
            self.assertEqual(node.level, 0)
            self.assertIn(node, source.tree.body)
            for alias in node.names:
                self.assertIsNone(alias.asname)
                if node.module in LIBRARY:
                    self.assertIn(alias.name, LIBRARY[node.module])
                    continue
                self.assertTrue(node.module.startswith("leastplans."))
                target = SOURCES[node.module.split(".")[1]]
                told = target.top((ast.FunctionDef, ast.ClassDef)) + target.constants()
                self.assertIn(alias.name, told)
        used = {node.id for node in source.of(ast.Name)}
        self.assertFalse(set(source.imported()) - used, "imported and not used")

    def test_no_circles(self):
        def behind(name, path):
            self.assertNotIn(name, path)
            for node in SOURCES[name].of(ast.ImportFrom):
                if node.module.startswith("leastplans."):
                    behind(node.module.split(".")[1], path + (name,))
        for name in SOURCES:
            behind(name, ())

    @each_file
    def test_module_level(self, source):
        let = (ast.ImportFrom, ast.FunctionDef, ast.ClassDef, ast.Assign)
        for node in source.tree.body:
            if isinstance(node, ast.Expr):
                self.assertIsInstance(node.value.value, str)
            else:
                self.assertIsInstance(node, let)
        bound = source.imported() + source.constants()
        bound += source.top((ast.FunctionDef, ast.ClassDef))
        self.assertEqual(len(bound), len(set(bound)))
        for node in source.tree.body:
            if isinstance(node, ast.Assign) and not isinstance(node.value, ast.Constant):
                below = list(ast.walk(node.value))[1:]
                self.assertFalse([one for one in below if isinstance(one, (ast.List, ast.Dict))])

    @each_file
    def test_classes_and_functions(self, source):
        for function in source.of(ast.FunctionDef):
            self.assertEqual(function.decorator_list, [])
            self.assertIsNone(function.returns)
            if function.name.startswith("__"):
                self.assertEqual(function.name, "__init__")
            inside = list(ast.walk(function))[1:]
            for node in inside:
                if isinstance(node, ast.stmt):
                    self.assertIsInstance(node, STATEMENTS)
        self.assertFalse([node for node in source.nodes if isinstance(node, BARRED_NODES)])
        for node in source.of(ast.ClassDef):
            self.assertIn(source.parents[node], [source.tree])
            self.assertFalse(node.decorator_list)

    @each_file
    def test_names(self, source):
        local = source.locals()
        classes = source.top(ast.ClassDef)
        self.assertFalse(local & set(source.imported()))
        self.assertFalse(local & set(classes))
        own = local | set(source.top((ast.FunctionDef, ast.ClassDef))) | set(source.constants())
        self.assertFalse((own - {"_"}) & set(dir(builtins)))
        self.assertFalse(own & BARRED_NAMES)
        for name in own:
            self.assertFalse(name.startswith("__"))
        let = own | set(source.imported()) | BUILTINS
        for node in source.of(ast.Name):
            self.assertIn(node.id, let)
            if node.id == "_":
                self.assertIsInstance(node.ctx, ast.Store)
        self.assertIsNone(BARRED_WORDS.search(source.text))

    def test_attributes(self):
        methods = {}
        assigned = set()
        for source in SOURCES.values():
            for node in source.of(ast.ClassDef):
                for one in node.body:
                    if isinstance(one, ast.FunctionDef):
                        methods.setdefault(one.name, []).append(node.name)
            for node in source.of(ast.Attribute):
                if isinstance(node.ctx, ast.Store):
                    assigned.add(node.attr)
        kinds = (str, int, list, dict, tuple, set, bytes)
        builtin = {name for kind in kinds for name in dir(kind)}
        let = {"count", "index", "title", "find", "get", "join", "lower", "upper", "split",
               "strip", "copy", "add"}
        self.assertFalse((assigned & builtin) - let)
        self.assertFalse(assigned & set(methods), "both an attribute and a method")
        for source in SOURCES.values():
            for node in source.of(ast.Attribute):
                self.assertNotIn(node.attr, BARRED_NAMES)
                if isinstance(source.parents[node], ast.Call) and source.parents[node].func is node:
                    self.assertIn(node.attr, METHODS | set(methods))
                elif node.attr not in assigned:
                    self.fail(f"never assigned: {node.attr}")

    @each_file
    def test_strings(self, source):
        for node in source.of(ast.Constant):
            if isinstance(node.value, float):
                self.fail("a float")
            if isinstance(node.value, str):
                self.assertNotIn("%", node.value)
                self.assertFalse(node.value.endswith(("._", ".__")))
                self.assertFalse(re.match(r"^__.*__$", node.value))
        for line in source.text.split("\n"):
            self.assertIsNone(re.search(r"\\[^nt\\'\"]", line))

    @each_file
    def test_errors(self, source):
        for node in source.of(ast.Raise):
            if node.exc is not None:
                self.assertIsInstance(node.exc, ast.Call)
                self.assertTrue(node.exc.func.id[0].isupper())
        for node in source.of(ast.ExceptHandler):
            self.assertIsInstance(node.type, ast.Name)

    @each_file
    def test_is(self, source):
        for node in source.of(ast.Compare):
            sides = [node.left] + node.comparators
            for op, one, other in zip(node.ops, sides, sides[1:]):
                if isinstance(op, (ast.Is, ast.IsNot)):
                    self.assertTrue(any(
                        isinstance(side, ast.Constant) and side.value in (None, True, False)
                        for side in (one, other)))

    @each_file
    def test_iterated_at_once(self, source):
        self.assertEqual(source.kept_rows(), [])
        for node in source.of((ast.GeneratorExp, ast.SetComp)):
            above = source.parents[node]
            self.assertIsInstance(above, ast.Call)
            self.assertIn(above.func.id, TAKERS | {"len"})

    def test_kept_rows(self):
        """The check of L23 itself: each row by itself."""
        let = """
            for k in range(3): pass
            rows = [row for _, row in zip(xs, ys)]
            rows = list(range(3))
            rows = tuple(sorted(d.items()))
            many = max(d.values(), default=0)
            many = len(range(3)) + len(d.keys())
            both = list(zip(list(range(3)), xs))
            text = ", ".join(d.keys())
            there = k in range(3) or k not in d.keys()
            for k in reversed(range(3)): pass
            for at, (k, v) in enumerate(zip(xs, ys)): pass
        """
        barred = """
            found = rank_row(row, range(3))
            found = rank_row(places=range(3))
            found = house.rows_at(zip(xs, ys))
            kept = range(3)
            kept = enumerate(xs)
            kept = (d.items(), 1)
            kept = [reversed(xs)]
            kept = {1: map(len, xs)}
            kept = [range(k) for k in xs]
            out.extend(range(3))
            out += d.values()
            a, b = d.keys()
            box.rows = d.values()
            same = d.keys() == names
            there = k in d.values()
            many = min(1, range(3))
            many = max(range(3), key=len)
            many = len(zip(xs, ys))
            text = sign.join(d.keys())
            for k in reversed(d.items()): pass
            rows = [*range(3)]
            rows = list(zip(xs, range(3)))
            first = range(3)[0]
            call(*d.values())
        """
        for row in let.strip().split("\n"):
            self.assertEqual(Source(row.strip()).kept_rows(), [], row)
        for row in barred.strip().split("\n"):
            self.assertEqual(Source(row.strip()).kept_rows(), [1], row)
        for row in ("return range(3)", "return d.items()", "yield zip(xs, ys)"):
            self.assertEqual(Source(f"def f():\n    {row}").kept_rows(), [2], row)


if __name__ == "__main__":
    unittest.main()
