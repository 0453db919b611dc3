"""The files of the package against the rules of the language that a parser can see.

This is stricter than the rules in places: what the package has no need of is barred altogether.
"""

import ast
import builtins
import pathlib
import re
import unittest

PACKAGE = pathlib.Path(__file__).resolve().parent.parent / "leastplans"
LIBRARY = {
    "heapq": {"heappush", "heappop", "heapify", "heapreplace", "heappushpop"},
    "math": {"gcd", "lcm", "isqrt", "comb", "perm", "factorial"},
    "itertools": {"product", "combinations", "permutations"},
}
BUILTINS = set(
    "len range enumerate zip min max sum abs sorted reversed int str bool list tuple dict set "
    "isinstance ord any all divmod ValueError KeyError".split()
)
METHODS = set(
    "append clear copy count endswith extend find get index insert isalnum isalpha isdigit "
    "islower isspace isupper items join keys ljust lower lstrip partition pop remove replace "
    "reverse rfind rjust rpartition rsplit rstrip setdefault split splitlines startswith strip "
    "update upper values zfill bit_length".split()
)
BARRED_NAMES = set(
    "register mro elements open input law version_info with_traceback add_note attrgetter "
    "breakpoint builtins compile copyright credits delattr dir eval exec exit gc globals help id "
    "importlib license locals methodcaller os quit super type vars sys iter next".split()
)
BARRED_WORDS = re.compile(
    r"\b(type|typing|typing_extensions|enum|Enum|IntEnum|StrEnum|Flag|IntFlag|Generic|Protocol|"
    r"ABC|ABCMeta|namedtuple|NamedTuple|TypedDict|TYPE_CHECKING|abstractmethod|_wall|_WallAttr)\b"
    r"|dataclass|overload|contextmanager"
)
STATEMENTS = (
    ast.Assign, ast.AugAssign, ast.If, ast.While, ast.For, ast.Return, ast.Break, ast.Continue,
    ast.Pass, ast.Raise, ast.Assert, ast.Delete, ast.Expr, ast.Try, ast.FunctionDef,
)
BARRED_NODES = (
    ast.Global, ast.AsyncFunctionDef, ast.AsyncFor, ast.AsyncWith, ast.Await, ast.Lambda,
    ast.Yield, ast.YieldFrom, ast.Set, ast.Div, ast.MatMult, ast.NamedExpr, ast.AnnAssign,
    ast.With, ast.Match, ast.Nonlocal, ast.Import,
)
ONE_AT_ONCE = {"zip", "enumerate", "reversed"}
TAKERS = {"list", "tuple", "dict", "sorted", "sum", "any", "all", "enumerate", "zip", "min", "max"}


class Source:
    """A file of the package, parsed."""

    def __init__(self, path):
        self.path = path
        self.text = path.read_text(encoding="utf-8")
        self.tree = ast.parse(self.text)
        self.nodes = list(ast.walk(self.tree))
        self.parents = {}
        for node in self.nodes:
            for child in ast.iter_child_nodes(node):
                self.parents[child] = node

    def of(self, kind):
        return [node for node in self.nodes if isinstance(node, kind)]

    def imported(self):
        return [alias.name for node in self.of(ast.ImportFrom) for alias in node.names]

    def top(self, kinds):
        return [node.name for node in self.tree.body if isinstance(node, kinds)]

    def locals(self):
        """Names of parameters and of variables in functions."""
        found = set()
        for function in self.of(ast.FunctionDef):
            for node in ast.walk(function):
                if isinstance(node, ast.arg):
                    found.add(node.arg)
                if isinstance(node, ast.Name) and isinstance(node.ctx, (ast.Store, ast.Del)):
                    found.add(node.id)
                if isinstance(node, ast.FunctionDef) and node is not function:
                    found.add(node.name)
        return found

    def constants(self):
        found = [node for node in self.tree.body if isinstance(node, ast.Assign)]
        return [target.id for node in found for target in node.targets]


SOURCES = {path.stem: Source(path) for path in sorted(PACKAGE.glob("*.py"))}


def each_file(check):
    """A test that checks each file by itself."""
    def test(self):
        for name, source in SOURCES.items():
            with self.subTest(file=name):
                check(self, source)
    return test


class LanguageTest(unittest.TestCase):

    def test_files(self):
        for path in PACKAGE.iterdir():
            if path.name != "__pycache__":
                self.assertRegex(path.name, r"^(__init__|[a-z][a-z0-9_]*)\.py$")
        self.assertLessEqual(len(SOURCES), 100)
        self.assertFalse({name for name in SOURCES if name in dir(builtins)})

    @each_file
    def test_characters_and_sizes(self, source):
        self.assertRegex(source.text, r"^[ -~\n]*$")
        lines = source.text.split("\n")
        self.assertLessEqual(len(lines) - 1, 399)
        self.assertLessEqual(max(map(len, lines)), 120)
        for function in source.of(ast.FunctionDef):
            self.assertLessEqual(function.end_lineno - function.lineno + 1, 40)

    @each_file
    def test_imports(self, source):
        for node in source.of(ast.ImportFrom):
            self.assertEqual(node.level, 0)
            self.assertIn(node, source.tree.body)
            for alias in node.names:
                self.assertIsNone(alias.asname)
                if node.module in LIBRARY:
                    self.assertIn(alias.name, LIBRARY[node.module])
                    continue
                self.assertTrue(node.module.startswith("leastplans."))
                target = SOURCES[node.module.split(".")[1]]
                told = target.top((ast.FunctionDef, ast.ClassDef)) + target.constants()
                self.assertIn(alias.name, told)
        used = {node.id for node in source.of(ast.Name)}
        self.assertFalse(set(source.imported()) - used, "imported and not used")

    def test_no_circles(self):
        def behind(name, path):
            self.assertNotIn(name, path)
            for node in SOURCES[name].of(ast.ImportFrom):
                if node.module.startswith("leastplans."):
                    behind(node.module.split(".")[1], path + (name,))
        for name in SOURCES:
            behind(name, ())

    @each_file
    def test_module_level(self, source):
        let = (ast.ImportFrom, ast.FunctionDef, ast.ClassDef, ast.Assign)
        for node in source.tree.body:
            if isinstance(node, ast.Expr):
                self.assertIsInstance(node.value.value, str)
            else:
                self.assertIsInstance(node, let)
        bound = source.imported() + source.constants()
        bound += source.top((ast.FunctionDef, ast.ClassDef))
        self.assertEqual(len(bound), len(set(bound)))
        for node in source.tree.body:
            if isinstance(node, ast.Assign) and not isinstance(node.value, ast.Constant):
                below = list(ast.walk(node.value))[1:]
                self.assertFalse([one for one in below if isinstance(one, (ast.List, ast.Dict))])

    @each_file
    def test_classes_and_functions(self, source):
        for function in source.of(ast.FunctionDef):
            self.assertEqual(function.decorator_list, [])
            self.assertIsNone(function.returns)
            if function.name.startswith("__"):
                self.assertEqual(function.name, "__init__")
            inside = list(ast.walk(function))[1:]
            for node in inside:
                if isinstance(node, ast.stmt):
                    self.assertIsInstance(node, STATEMENTS)
        self.assertFalse([node for node in source.nodes if isinstance(node, BARRED_NODES)])
        for node in source.of(ast.ClassDef):
            self.assertIn(source.parents[node], [source.tree])
            self.assertFalse(node.decorator_list)

    @each_file
    def test_names(self, source):
        local = source.locals()
        classes = source.top(ast.ClassDef)
        self.assertFalse(local & set(source.imported()))
        self.assertFalse(local & set(classes))
        own = local | set(source.top((ast.FunctionDef, ast.ClassDef))) | set(source.constants())
        self.assertFalse((own - {"_"}) & set(dir(builtins)))
        self.assertFalse(own & BARRED_NAMES)
        for name in own:
            self.assertFalse(name.startswith("__"))
        let = own | set(source.imported()) | BUILTINS
        for node in source.of(ast.Name):
            self.assertIn(node.id, let)
            if node.id == "_":
                self.assertIsInstance(node.ctx, ast.Store)
        self.assertIsNone(BARRED_WORDS.search(source.text))

    def test_attributes(self):
        methods = {}
        assigned = set()
        for source in SOURCES.values():
            for node in source.of(ast.ClassDef):
                for one in node.body:
                    if isinstance(one, ast.FunctionDef):
                        methods.setdefault(one.name, []).append(node.name)
            for node in source.of(ast.Attribute):
                if isinstance(node.ctx, ast.Store):
                    assigned.add(node.attr)
        kinds = (str, int, list, dict, tuple, set, bytes)
        builtin = {name for kind in kinds for name in dir(kind)}
        let = {"count", "index", "title", "find", "get", "join", "lower", "upper", "split",
               "strip", "copy", "add"}
        self.assertFalse((assigned & builtin) - let)
        self.assertFalse(assigned & set(methods), "both an attribute and a method")
        for source in SOURCES.values():
            for node in source.of(ast.Attribute):
                self.assertNotIn(node.attr, BARRED_NAMES)
                if isinstance(source.parents[node], ast.Call) and source.parents[node].func is node:
                    self.assertIn(node.attr, METHODS | set(methods))
                elif node.attr not in assigned:
                    self.fail(f"never assigned: {node.attr}")

    @each_file
    def test_strings(self, source):
        for node in source.of(ast.Constant):
            if isinstance(node.value, float):
                self.fail("a float")
            if isinstance(node.value, str):
                self.assertNotIn("%", node.value)
                self.assertFalse(node.value.endswith(("._", ".__")))
                self.assertFalse(re.match(r"^__.*__$", node.value))
        for line in source.text.split("\n"):
            self.assertIsNone(re.search(r"\\[^nt\\'\"]", line))

    @each_file
    def test_errors(self, source):
        for node in source.of(ast.Raise):
            if node.exc is not None:
                self.assertIsInstance(node.exc, ast.Call)
                self.assertTrue(node.exc.func.id[0].isupper())
        for node in source.of(ast.ExceptHandler):
            self.assertIsInstance(node.type, ast.Name)

    @each_file
    def test_is(self, source):
        for node in source.of(ast.Compare):
            sides = [node.left] + node.comparators
            for op, one, other in zip(node.ops, sides, sides[1:]):
                if isinstance(op, (ast.Is, ast.IsNot)):
                    self.assertTrue(any(
                        isinstance(side, ast.Constant) and side.value in (None, True, False)
                        for side in (one, other)))

    @each_file
    def test_iterated_at_once(self, source):
        for node in source.of(ast.Call):
            views = isinstance(node.func, ast.Attribute) and node.func.attr in (
                "items", "keys", "values")
            if not views and getattr(node.func, "id", None) not in ONE_AT_ONCE:
                continue
            above = source.parents[node]
            if isinstance(above, ast.Call):
                self.assertIn(above.func.id, TAKERS)
            else:
                self.assertIsInstance(above, (ast.For, ast.comprehension))
        for node in source.of((ast.GeneratorExp, ast.SetComp)):
            above = source.parents[node]
            self.assertIsInstance(above, ast.Call)
            self.assertIn(above.func.id, TAKERS | {"len"})


if __name__ == "__main__":
    unittest.main()
