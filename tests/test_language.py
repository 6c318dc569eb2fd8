"""The package keeps to the plain subset of Python that LANGUAGE.md describes, as far as code can see it.

The tests are narrower than the rules: they let only what the package uses.
"""

import ast
import builtins
import io
import pathlib
import re
import tokenize
import unittest

PACKAGE = pathlib.Path(__file__).resolve().parent.parent / "etasure"
FILES = sorted(PACKAGE.rglob("*.py"))

STATEMENTS = (ast.FunctionDef, ast.ClassDef, ast.ImportFrom, ast.Assign, ast.AugAssign, ast.Return, ast.If, ast.While,
              ast.For, ast.Expr, ast.Raise, ast.Break, ast.Continue, ast.Pass, ast.Try, ast.ExceptHandler)
EXPRESSIONS = (ast.BoolOp, ast.BinOp, ast.UnaryOp, ast.Compare, ast.Call, ast.Name, ast.Attribute, ast.Subscript,
               ast.Slice, ast.Tuple, ast.List, ast.Dict, ast.ListComp, ast.DictComp, ast.IfExp, ast.Constant,
               ast.JoinedStr, ast.FormattedValue)
SIGNS = (ast.Add, ast.Sub, ast.Mult, ast.FloorDiv, ast.Mod, ast.Pow, ast.LShift, ast.RShift, ast.BitAnd, ast.BitOr,
         ast.BitXor, ast.USub, ast.Not, ast.And, ast.Or, ast.Eq, ast.NotEq, ast.Lt, ast.LtE, ast.Gt, ast.GtE, ast.Is,
         ast.IsNot, ast.In, ast.NotIn, ast.Load, ast.Store)
OTHERS = (ast.Module, ast.arguments, ast.arg, ast.keyword, ast.alias, ast.comprehension)

BUILTINS = {"len", "range", "enumerate", "zip", "min", "max", "sum", "abs", "sorted", "reversed", "int", "str", "bool",
            "list", "tuple", "dict", "isinstance", "ord", "repr", "any", "all", "divmod", "ValueError"}
METHODS = set("""append clear copy count endswith extend find get index insert isalnum isalpha isdigit islower isspace
isupper items join keys ljust lower lstrip partition pop remove replace reverse rfind rjust rpartition rsplit rstrip
setdefault split splitlines startswith strip update upper values zfill bit_length""".split())
MUTATORS = {"append", "clear", "extend", "insert", "pop", "remove", "reverse", "setdefault", "update"}
LIBRARY = {"gcd", "lcm", "isqrt", "comb", "perm", "factorial"}
KEYWORDS = {"sorted": {"key", "reverse"}, "min": {"key", "default"}, "max": {"key", "default"}, "sum": {"start"},
            "enumerate": {"start"}, "zip": {"strict"}}
AT_ONCE = {"zip", "enumerate", "reversed", "range"}
VIEWS = {"items", "keys", "values"}
TAKERS = {"list", "tuple", "dict", "sorted", "sum", "any", "all", "enumerate", "zip", "min", "max"}
NOT_NAMES = set("""register mro elements open input law version_info with_traceback add_note attrgetter breakpoint
builtins compile copyright credits delattr dir eval exec exit gc getattr globals hasattr help id importlib license
locals methodcaller os quit setattr super type vars sys""".split())
NOT_WORDS = set("""type typing typing_extensions enum Enum IntEnum StrEnum Flag IntFlag Generic Protocol ABC ABCMeta
namedtuple NamedTuple TypedDict TYPE_CHECKING abstractmethod""".split())
BUILTIN_VALUES = [0, "", [], {}, set(), b"", ()]
PLAIN_NAME = re.compile(r"(_?[A-Za-z][A-Za-z0-9_]*|_)\Z")
BARRED = re.compile(r"_?(_wall|_WallAttr|_pe_|_dcw_|_enum_|_cm_|_twin_re_|_lay_|_law_|_stub_|_sre)")


def trees():
    return [(path, ast.parse(path.read_text())) for path in FILES]


def with_parents(tree):
    """The nodes of a tree, each knowing its parent."""
    nodes = list(ast.walk(tree))
    for node in nodes:
        for child in ast.iter_child_nodes(node):
            child.parent = node
    return nodes


def bound_names(tree):
    """All names that a file gives to something, with the nodes."""
    for node in ast.walk(tree):
        if isinstance(node, ast.Name) and isinstance(node.ctx, ast.Store):
            yield node.id, node
        elif isinstance(node, ast.arg):
            yield node.arg, node
        elif isinstance(node, (ast.FunctionDef, ast.ClassDef)):
            yield node.name, node
        elif isinstance(node, ast.alias):
            yield node.name, node


def docstrings(tree):
    found = []
    for node in ast.walk(tree):
        if isinstance(node, (ast.Module, ast.FunctionDef, ast.ClassDef)) and ast.get_docstring(node) is not None:
            found.append(node.body[0].value)
    return found


class TestLanguage(unittest.TestCase):

    def check(self, holds, path, node, rule):
        self.assertTrue(holds, f"{rule}: {path.name}:{getattr(node, 'lineno', 0)}")

    def test_files(self):
        found = [path for path in PACKAGE.rglob("*") if "__pycache__" not in path.parts]
        self.assertEqual(sorted(found), FILES)
        self.assertLessEqual(len(FILES), 100)
        for path in FILES:
            self.assertRegex(path.name, r"\A([a-z][a-z0-9_]*|__init__)\.py\Z")
            self.assertNotIn(path.stem, dir(builtins))
            self.assertNotIn(path.stem, NOT_NAMES | NOT_WORDS | {"heapq", "math", "itertools", "test", "tests", "site"})

    def test_characters_and_sizes(self):
        for path in FILES:
            text = path.read_text()
            self.assertTrue(all(sign == "\n" or " " <= sign <= "~" for sign in text), path.name)
            lines = text.split("\n")
            self.assertLessEqual(len(lines), 399, path.name)
            for number, line in enumerate(lines, start=1):
                self.assertLessEqual(len(line), 120, f"{path.name}:{number}")
                self.assertEqual(line, line.rstrip(), f"{path.name}:{number}")

    def test_functions_are_short(self):
        for path, tree in trees():
            for node in ast.walk(tree):
                if isinstance(node, ast.FunctionDef):
                    self.check(node.end_lineno - node.lineno < 40, path, node, "L10")
                    self.check(not node.decorator_list and node.returns is None, path, node, "L4, L21")
                    plain = not (node.args.vararg or node.args.kwarg or node.args.kwonlyargs or node.args.posonlyargs)
                    self.check(plain and not node.args.defaults, path, node, "L4")

    def test_nothing_but_what_is_let(self):
        for path, tree in trees():
            for node in with_parents(tree):
                self.check(isinstance(node, STATEMENTS + EXPRESSIONS + SIGNS + OTHERS), path, node,
                           f"L6, L7: {type(node).__name__}")
                if isinstance(node, ast.Constant):
                    self.check(node.value is None or type(node.value) in (int, str, bool), path, node, "L7")
                if isinstance(node, ast.arg):
                    self.check(node.annotation is None, path, node, "L21")
                if isinstance(node, ast.Compare):
                    for sign, other in zip(node.ops, node.comparators):
                        if isinstance(sign, (ast.Is, ast.IsNot)):
                            self.check(isinstance(other, ast.Constant) and other.value in (None, True, False), path,
                                       node, "L20")
                if isinstance(node, ast.BinOp) and isinstance(node.op, ast.Pow):
                    self.check(isinstance(node.right, ast.Constant) and 0 <= node.right.value <= 64, path, node, "L27")
                if isinstance(node, ast.comprehension):
                    self.check(not node.is_async and isinstance(node.target, (ast.Name, ast.Tuple)), path, node, "L7")

    def test_module_level(self):
        for path, tree in trees():
            names = [name for name, node in bound_names(tree) if node in tree.body or isinstance(node, ast.alias)]
            for at, node in enumerate(tree.body):
                if isinstance(node, ast.Expr):
                    self.check(at == 0 and isinstance(node.value, ast.Constant), path, node, "L3")
                elif isinstance(node, ast.Assign):
                    self.check(len(node.targets) == 1 and isinstance(node.targets[0], ast.Name), path, node, "L3")
                    names.append(node.targets[0].id)
                    ast.literal_eval(node.value)
                else:
                    self.check(isinstance(node, (ast.ImportFrom, ast.FunctionDef, ast.ClassDef)), path, node, "L3")
            self.assertEqual(len(names), len(set(names)), f"L15: {path.name}")

    def test_imports(self):
        defined = {path.stem: {getattr(node, "name", None) or node.targets[0].id for node in tree.body
                               if isinstance(node, (ast.FunctionDef, ast.ClassDef, ast.Assign))}
                   for path, tree in trees()}
        for path, tree in trees():
            is_head = True
            for at, node in enumerate(tree.body):
                if not isinstance(node, ast.ImportFrom):
                    is_head = is_head and at == 0
                    continue
                self.check(is_head and node.level == 0, path, node, "L2")
                self.check(all(alias.asname is None and alias.name != "*" for alias in node.names), path, node, "L2")
                names = {alias.name for alias in node.names}
                if node.module == "math":
                    self.check(names <= LIBRARY, path, node, "L2")
                else:
                    self.assertRegex(node.module, r"\Aetasure\.[a-z_]+\Z")
                    self.check(names <= defined[node.module.split(".")[1]], path, node, "L16")
                used = {name.id for name in ast.walk(tree) if isinstance(name, ast.Name)}
                self.check(names <= used, path, node, "an import is not used")

    def test_names(self):
        for path, tree in trees():
            barred = {alias.name for node in tree.body if isinstance(node, ast.ImportFrom) for alias in node.names}
            barred |= {node.name for node in tree.body if isinstance(node, ast.ClassDef)}
            for name, node in bound_names(tree):
                if name != "__init__":
                    self.assertRegex(name, PLAIN_NAME)
                    self.assertNotRegex(name, BARRED)
                self.assertNotIn(name, dir(builtins), f"L15: {path.name}")
                self.assertNotIn(name, NOT_NAMES, f"L17: {path.name}")
                if not isinstance(node, (ast.alias, ast.ClassDef)):
                    self.check(name not in barred, path, node, f"L15: {name}")
            for node in ast.walk(tree):
                if isinstance(node, ast.Name) and isinstance(node.ctx, ast.Load):
                    self.check(node.id != "_", path, node, "L12")

    def test_calls(self):
        methods = {node.name for _, tree in trees() for outer in ast.walk(tree) if isinstance(outer, ast.ClassDef)
                   for node in outer.body if isinstance(node, ast.FunctionDef)}
        for path, tree in trees():
            bound = {name for name, _ in bound_names(tree)}
            for node in with_parents(tree):
                if isinstance(node, ast.Name) and node.id not in bound:
                    self.check(node.id in BUILTINS, path, node, f"L8: {node.id}")
                if isinstance(node, ast.Name) and node.id in LIBRARY:
                    self.check(isinstance(node.parent, ast.Call) and node.parent.func is node
                               and not node.parent.keywords, path, node, "L2")
                if not isinstance(node, ast.Call):
                    continue
                if isinstance(node.func, ast.Attribute):
                    self.check(node.func.attr in METHODS | methods | {"__init__"}, path, node, f"L25: {node.func.attr}")
                    self.check(not node.keywords or node.func.attr in methods, path, node, "L25")
                elif node.func.id in BUILTINS:
                    words = {keyword.arg for keyword in node.keywords}
                    self.check(words <= KEYWORDS.get(node.func.id, set()), path, node, "L22")

    def test_iterated_at_once(self):
        for path, tree in trees():
            for node in with_parents(tree):
                if not isinstance(node, ast.Call):
                    continue
                is_view = isinstance(node.func, ast.Attribute) and node.func.attr in VIEWS
                if is_view or isinstance(node.func, ast.Name) and node.func.id in AT_ONCE:
                    parent = node.parent
                    is_iterated = isinstance(parent, (ast.For, ast.comprehension)) and parent.iter is node
                    is_taken = (isinstance(parent, ast.Call) and isinstance(parent.func, ast.Name)
                                and parent.func.id in TAKERS and parent.args[0] is node)
                    is_range = isinstance(node.func, ast.Name) and node.func.id == "range"
                    # A range alone may be kept in a variable.
                    is_kept = is_range and isinstance(parent, ast.Assign) and isinstance(parent.targets[0], ast.Name)
                    self.check(is_iterated or is_taken or is_kept, path, node, "L23")

    def test_loops_change_nothing_that_they_go_over(self):
        for path, tree in trees():
            for loop in ast.walk(tree):
                if not isinstance(loop, ast.For):
                    continue
                over = {name.id for name in ast.walk(loop.iter) if isinstance(name, ast.Name)
                        and not self.is_measured(loop.iter, name)}
                for node in [part for row in loop.body for part in ast.walk(row)]:
                    if isinstance(node, ast.Call) and isinstance(node.func, ast.Attribute):
                        held = node.func.value
                        is_changed = node.func.attr in MUTATORS and isinstance(held, ast.Name) and held.id in over
                        self.check(not is_changed, path, node, "L23")
                    if isinstance(node, ast.Subscript) and isinstance(node.ctx, ast.Store):
                        held = node.value
                        self.check(not (isinstance(held, ast.Name) and held.id in over), path, node, "L23")

    def is_measured(self, iterated, name):
        """Whether the name stands within a range, which is worked out before the loop."""
        return any(isinstance(node, ast.Call) and isinstance(node.func, ast.Name) and node.func.id == "range"
                   and any(part is name for part in ast.walk(node)) for node in ast.walk(iterated))

    def test_attributes(self):
        for path, tree in trees():
            assigned = {node.attr for node in ast.walk(tree)
                        if isinstance(node, ast.Attribute) and isinstance(node.ctx, ast.Store)}
            for name in assigned:
                self.assertRegex(name, PLAIN_NAME)
                self.assertFalse(any(hasattr(value, name) for value in BUILTIN_VALUES), f"L26: {path.name} {name}")

    def test_errors_are_raised_on_the_spot(self):
        for path, tree in trees():
            for node in ast.walk(tree):
                if isinstance(node, ast.Raise):
                    self.check(isinstance(node.exc, ast.Call) and isinstance(node.exc.func, ast.Name)
                               and node.cause is None and not node.exc.keywords, path, node, "L19")

    def test_only_errors_of_the_package_are_caught(self):
        for path, tree in trees():
            own = {alias.name for node in tree.body if isinstance(node, ast.ImportFrom)
                   and node.module == "etasure.errors" for alias in node.names}
            for node in ast.walk(tree):
                if isinstance(node, ast.Try):
                    self.check(not node.finalbody and not node.orelse, path, node, "L6")
                if isinstance(node, ast.ExceptHandler):
                    is_own = isinstance(node.type, ast.Name) and node.type.id in own and node.name is None
                    self.check(is_own, path, node, "L19")

    def test_strings_and_words(self):
        for path, tree in trees():
            comments = docstrings(tree)
            for node in ast.walk(tree):
                if isinstance(node, ast.Constant) and isinstance(node.value, str):
                    self.check("%" not in node.value and "\\" not in node.value, path, node, "L27")
                    if not any(node is comment for comment in comments):
                        words = set(re.findall(r"\w+", node.value))
                        self.check(not words & NOT_WORDS and "__" not in node.value, path, node, "L17, L27")
            for token in tokenize.generate_tokens(io.StringIO(path.read_text()).readline):
                if token.type == tokenize.NAME:
                    self.assertNotIn(token.string, NOT_WORDS | {"global", "lambda", "yield", "async"}, f"L17: {path}")
                if token.type == tokenize.STRING:
                    self.assertNotIn("\\", token.string, f"L27: {path.name}:{token.start[0]}")

    def test_all_functions_say_what_they_are(self):
        for path, tree in trees():
            self.assertIsNotNone(ast.get_docstring(tree), path.name)
            for node in ast.walk(tree):
                if isinstance(node, (ast.FunctionDef, ast.ClassDef)) and node.name != "__init__":
                    self.check(ast.get_docstring(node) is not None, path, node, f"no docstring: {node.name}")


if __name__ == "__main__":
    unittest.main()
