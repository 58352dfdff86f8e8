"""The rules of the language that can be looked at plainly; stricter than the rules where that is shorter."""

import ast
import builtins
import re
import unittest
from pathlib import Path

from plainstore import errors

FOLDER = Path(__file__).resolve().parent.parent / "plainstore"
FILES = sorted(FOLDER.rglob("*.py"))
BUILTINS = """len range enumerate zip min max sum abs sorted reversed int str bool list tuple dict set isinstance ord
repr any all divmod iter property staticmethod classmethod Exception ValueError TypeError KeyError IndexError
LookupError ZeroDivisionError ArithmeticError OverflowError RuntimeError NotImplementedError NotImplemented""".split()
METHODS = """append clear copy count endswith extend find get index insert isalnum isalpha isdigit islower isspace
isupper items join keys ljust lower lstrip partition pop remove replace reverse rfind rjust rpartition rsplit rstrip
setdefault split splitlines startswith strip update upper values zfill bit_length add discard""".split()
BARRED = r"""\b(type|typing|typing_extensions|enum|Enum|IntEnum|StrEnum|Flag|IntFlag|Generic|Protocol|ABC|ABCMeta|
namedtuple|NamedTuple|TypedDict|TYPE_CHECKING|abstractmethod)\b|dataclass|overload|contextmanager|_wall|\(type\)|Meta|
metaclass=""".replace("\n", "")
NAMES_NOT_USED = """mro elements open input law version_info with_traceback add_note attrgetter breakpoint builtins
compile copyright credits delattr dir eval exec exit gc getattr globals hasattr help id importlib license locals
methodcaller os quit setattr super type vars sys register""".split()
OPERATORS = """__init__ __eq__ __len__ __iter__ __contains__ __getitem__ __enter__ __exit__ __repr__ __str__""".split()
LIBRARY = {"math": ["gcd", "lcm", "isqrt", "comb", "perm", "factorial"]}
NODES = (
    ast.Global, ast.AsyncFunctionDef, ast.AsyncFor, ast.AsyncWith, ast.Await, ast.GeneratorExp, ast.Yield,
    ast.YieldFrom, ast.Match, ast.NamedExpr, ast.Set, ast.SetComp, ast.Pow, ast.Div, ast.MatMult,
    ast.JoinedStr, ast.AnnAssign,
)


def bound_names(tree):
    """Every name that a file gives to anything but an attribute."""
    for node in ast.walk(tree):
        if isinstance(node, (ast.FunctionDef, ast.ClassDef)):
            yield node.name
        elif isinstance(node, ast.arg):
            yield node.arg
        elif isinstance(node, ast.Name) and not isinstance(node.ctx, ast.Load):
            yield node.id
        elif isinstance(node, ast.alias):
            yield node.name


class Language(unittest.TestCase):
    def setUp(self):
        self.trees = {path: ast.parse(path.read_text("ascii")) for path in FILES}

    def each(self, *kinds):
        for path, tree in self.trees.items():
            for node in ast.walk(tree):
                if isinstance(node, kinds):
                    yield node, f"{path.name}:{getattr(node, 'lineno', 0)}"

    def test_files_and_sizes(self):
        others = [path for path in FOLDER.rglob("*") if path.is_file() and path.suffix not in (".py", ".pyc")]
        self.assertEqual(others, [])
        for path in FILES:
            lines = path.read_text("ascii").split("\n")
            self.assertLessEqual(len(lines), 400, path)
            for number, line in enumerate(lines, 1):
                self.assertLessEqual(len(line), 120, (path, number))
                self.assertRegex(line, r"^[ -~]*$", (path, number))
        for node, place in self.each(ast.FunctionDef):
            self.assertLessEqual(node.end_lineno - node.lineno + 1, 40, place)

    def test_statements_and_expressions(self):
        for _, place in self.each(*NODES):
            self.fail(place)
        for node, place in self.each(ast.FunctionDef, ast.ClassDef):
            names = [getattr(decorator, "id", None) for decorator in node.decorator_list]
            self.assertTrue(names in ([], ["property"]), place)
        for node, place in self.each(ast.Constant):
            self.assertNotIsInstance(node.value, (float, complex), place)
            self.assertFalse(isinstance(node.value, str) and "%" in node.value, place)

    def test_own_errors_are_caught_by_name(self):
        own = vars(errors)
        for node, place in self.each(ast.Try):
            self.assertEqual((len(node.body), node.orelse, node.finalbody), (1, [], []), place)
            for handler in node.handlers:
                names = handler.type.elts if isinstance(handler.type, ast.Tuple) else [handler.type]
                self.assertTrue(all(isinstance(own[name.id], type) for name in names), place)
                self.assertIsNone(handler.name, place)

    def test_what_leaves_a_block_only_assigns(self):
        for node, place in self.each(ast.FunctionDef):
            if node.name == "__exit__":
                for part in ast.walk(node):
                    kinds = (ast.Call, ast.Subscript, ast.For, ast.While, ast.Return, ast.Raise, ast.AugAssign,
                             ast.Dict)
                    self.assertNotIsInstance(part, kinds, place)
                    if isinstance(part, ast.Assign):
                        self.assertIsInstance(part.targets[0], ast.Attribute, place)
                    if isinstance(part, ast.Compare):
                        self.assertIsNone(part.comparators[0].value, place)

    def test_no_name_is_both_a_method_and_an_attribute(self):
        methods, properties, attributes = set(), set(), set()
        for node, _ in self.each(ast.ClassDef):
            for part in node.body:
                if isinstance(part, ast.FunctionDef):
                    (properties if part.decorator_list else methods).add(part.name)
        for node, _ in self.each(ast.Attribute):
            if isinstance(node.ctx, ast.Store):
                attributes.add(node.attr)
        self.assertEqual(methods & properties | methods & attributes | properties & attributes, set())
        not_used = set(METHODS) | {"args", "encode", "decode", "hex", "fromhex", "format", "sort"}
        self.assertEqual((methods | properties | attributes) & not_used, set())

    def test_module_level(self):
        kinds = (ast.ImportFrom, ast.FunctionDef, ast.ClassDef, ast.Assign)
        for path, tree in self.trees.items():
            body = tree.body[1:] if isinstance(tree.body[0], ast.Expr) else tree.body
            seen = []
            for node in body:
                self.assertIsInstance(node, kinds, path)
                seen += [node.name] if isinstance(node, (ast.FunctionDef, ast.ClassDef)) else []
                seen += [alias.name for alias in node.names] if isinstance(node, ast.ImportFrom) else []
                seen += [target.id for target in node.targets] if isinstance(node, ast.Assign) else []
            self.assertEqual(len(seen), len(set(seen)), path)

    def test_imports(self):
        defined = dict(LIBRARY)
        needs = {}
        for path, tree in self.trees.items():
            module = "plainstore." + path.stem
            assigned = [target.id for node in tree.body if isinstance(node, ast.Assign) for target in node.targets]
            made = [node.name for node in tree.body if isinstance(node, (ast.FunctionDef, ast.ClassDef))]
            defined[module] = assigned + made
            needs[module] = [node for node in ast.walk(tree) if isinstance(node, (ast.Import, ast.ImportFrom))]
        for module, nodes in needs.items():
            for node in nodes:
                self.assertIsInstance(node, ast.ImportFrom, module)
                for alias in node.names:
                    self.assertIsNone(alias.asname, module)
                    self.assertIn(alias.name, defined[node.module], module)
        done = set(LIBRARY)
        while len(done) < len(needs) + len(LIBRARY):
            ready = [name for name in needs if name not in done and all(node.module in done for node in needs[name])]
            self.assertTrue(ready, "files import from each other")
            done.update(ready)

    def test_names(self):
        for path, tree in self.trees.items():
            imports = [node for node in ast.walk(tree) if isinstance(node, ast.ImportFrom)]
            imported = [alias.name for node in imports for alias in node.names]
            classes = [node.name for node in ast.walk(tree) if isinstance(node, ast.ClassDef)]
            for name in bound_names(tree):
                self.assertNotIn(name, NAMES_NOT_USED, path)
                if name not in OPERATORS and name != "_":
                    self.assertFalse(hasattr(builtins, name), (path, name))
                    self.assertRegex(name, r"^_?[A-Za-z][A-Za-z0-9_]*$", path)
            for node in ast.walk(tree):
                if isinstance(node, ast.arg) or isinstance(node, ast.Name) and isinstance(node.ctx, ast.Store):
                    name = node.arg if isinstance(node, ast.arg) else node.id
                    self.assertNotIn(name, imported + classes, path)
                if isinstance(node, ast.Name) and isinstance(node.ctx, ast.Load):
                    self.assertNotEqual(node.id, "_", path)
                    if hasattr(builtins, node.id):
                        self.assertIn(node.id, BUILTINS, path)

    def test_words(self):
        for path in FILES:
            self.assertIsNone(re.search(BARRED, path.read_text("ascii")), path)

    def test_methods_of_builtin_values(self):
        own = {node.name for node, _ in self.each(ast.FunctionDef)} | {"__init__"}
        for node, place in self.each(ast.Call):
            if isinstance(node.func, ast.Attribute):
                self.assertIn(node.func.attr, own | set(METHODS), place)

    def test_kept_and_passed_views(self):
        # A range, a zip or a view stands where it is iterated: in a loop, or in a call of one of these.
        inside = ("list", "tuple", "dict", "sorted", "sum", "any", "all", "enumerate", "zip", "min", "max", "len")
        for node, place in self.each(ast.Call, ast.Assign, ast.Return, ast.Compare):
            if isinstance(node, ast.Call) and getattr(node.func, "id", None) not in inside:
                for part in node.args + [word.value for word in node.keywords]:
                    self.assertFalse(self.is_view(part), place)
            elif isinstance(node, (ast.Assign, ast.Return)):
                self.assertFalse(self.is_view(node.value), place)
            elif isinstance(node, ast.Compare):
                self.assertFalse(any(self.is_view(part) for part in [node.left] + node.comparators), place)

    def is_view(self, node):
        if not isinstance(node, ast.Call):
            return False
        name = getattr(node.func, "id", getattr(node.func, "attr", None))
        return name in ("range", "zip", "enumerate", "reversed", "items", "keys", "values")

    def test_comparing_methods_change_nothing(self):
        for node, place in self.each(ast.FunctionDef):
            if node.name in ("__eq__", "__len__", "__contains__", "__getitem__", "__iter__"):
                for part in ast.walk(node):
                    self.assertNotIsInstance(part, (ast.Assign, ast.AugAssign, ast.Delete), place)


if __name__ == "__main__":
    unittest.main()
