"""Those rules of LANGUAGE.md that can be told from the code with little effort."""
import ast
import builtins
import io
import os
import re
import tokenize
import unittest

FOLDER = os.path.join(os.path.dirname(os.path.dirname(os.path.abspath(__file__))), "whomaywhat")

BUILTINS = set(
    "len range enumerate zip min max sum abs sorted reversed int str bool bytes list tuple dict set frozenset"
    " isinstance ord repr any all divmod pow map iter next getattr hasattr setattr Exception ValueError TypeError"
    " KeyError IndexError LookupError ZeroDivisionError ArithmeticError OverflowError RuntimeError"
    " NotImplementedError AttributeError StopIteration NotImplemented super property staticmethod classmethod".split()
)
METHODS = set(
    "append clear copy count endswith extend find get index insert isalnum isalpha isdigit islower isspace isupper"
    " items join keys ljust lower lstrip partition pop remove replace reverse rfind rjust rpartition rsplit rstrip"
    " setdefault split splitlines startswith strip update upper values zfill bit_length add discard sort".split()
)
BARRED_NAMES = set(
    "register mro elements open input law version_info with_traceback add_note attrgetter breakpoint compile"
    " copyright credits delattr dir eval exec exit gc globals help id importlib license locals methodcaller os quit"
    " type vars sys".split()
)
BARRED_WORDS = set(
    "type typing typing_extensions enum Enum IntEnum StrEnum Flag IntFlag Generic Protocol ABC ABCMeta namedtuple"
    " NamedTuple TypedDict TYPE_CHECKING abstractmethod dataclass overload contextmanager".split()
)
BARRED_BEGINNINGS = r"_(wall|pe_|dcw_|enum_|cm_|twin_re_|lay_|law_|stub_|sre|WallAttr)"
BARRED_PRIVATE = r"(_cold|_tuplegetter|_outside|_record|_written_out|_member_names)[0-9_]*$"
BARRED_ATTRIBUTES = set(
    "items keys values pop update append clear extend insert remove reverse setdefault sort args encode decode hex"
    " fromhex format".split()
)
LIBRARY = {
    "heapq": "heappush heappop heapify heapreplace heappushpop".split(),
    "math": "gcd lcm isqrt comb perm factorial".split(),
    "itertools": "product combinations permutations chain accumulate pairwise islice zip_longest".split(),
    "collections": ["defaultdict"],
}
NOT_ALLOWED = (
    ast.Global, ast.AsyncFunctionDef, ast.AsyncFor, ast.AsyncWith, ast.Await, ast.Div, ast.Import, ast.MatMult,
)


def sources():
    found = {}
    for name in sorted(os.listdir(FOLDER)):
        if name != "__pycache__":
            with open(os.path.join(FOLDER, name), encoding="utf-8") as file:
                found[name] = file.read()
    return found


def bound_at_top(tree):
    names = []
    for node in tree.body:
        if isinstance(node, ast.ImportFrom):
            names += [alias.asname or alias.name for alias in node.names]
        elif isinstance(node, (ast.FunctionDef, ast.ClassDef)):
            names.append(node.name)
        elif isinstance(node, ast.Assign):
            names += [target.id for target in node.targets]
    return names


def bound_within(tree):
    names = []
    for node in ast.walk(tree):
        if isinstance(node, ast.Name) and not isinstance(node.ctx, ast.Load):
            names.append(node.id)
        elif isinstance(node, ast.arg):
            names.append(node.arg)
        elif isinstance(node, (ast.FunctionDef, ast.ClassDef)):
            names.append(node.name)
        elif isinstance(node, ast.ExceptHandler) and node.name:
            names.append(node.name)
    return names


def methods_of(tree):
    classes = [node for node in ast.walk(tree) if isinstance(node, ast.ClassDef)]
    return {node.name for kind in classes for node in kind.body if isinstance(node, ast.FunctionDef)}


class LanguageTest(unittest.TestCase):
    def setUp(self):
        self.sources = sources()
        self.trees = {name: ast.parse(text) for name, text in self.sources.items()}

    def test_files(self):
        for name, text in self.sources.items():
            with self.subTest(name):
                self.assertRegex(name, r"^[a-z0-9_]+\.py$")
                self.assertRegex(text, r"^[ -~\n]*$")
                lines = text.split("\n")
                self.assertLessEqual(len(lines), 400)
                self.assertLessEqual(max(map(len, lines)), 120)

    def test_functions_are_short(self):
        for name, tree in self.trees.items():
            for node in ast.walk(tree):
                if isinstance(node, ast.FunctionDef):
                    with self.subTest(file=name, function=node.name):
                        self.assertLessEqual(node.end_lineno - node.lineno + 1, 40)

    def test_module_level(self):
        for name, tree in self.trees.items():
            for index, node in enumerate(tree.body):
                with self.subTest(file=name, line=node.lineno):
                    if isinstance(node, ast.Expr):
                        self.assertEqual(index, 0)
                        self.assertIsInstance(node.value.value, str)
                    elif isinstance(node, ast.Assign):
                        self.assertEqual([type(target) for target in node.targets], [ast.Name])
                    else:
                        self.assertIsInstance(node, (ast.ImportFrom, ast.FunctionDef, ast.ClassDef))
            names = bound_at_top(tree)
            self.assertEqual(sorted(set(names)), sorted(names), name)

    def test_imports_name_the_defining_file(self):
        for name, tree in self.trees.items():
            for node in ast.walk(tree):
                if isinstance(node, ast.ImportFrom):
                    with self.subTest(file=name, line=node.lineno):
                        self.assertIn(node, tree.body)
                        self.assertEqual(node.level, 0)
                        wanted = [alias.name for alias in node.names]
                        if node.module in LIBRARY:
                            self.assertLessEqual(set(wanted), set(LIBRARY[node.module]))
                            continue
                        self.assertTrue(node.module.startswith("whomaywhat."))
                        other = self.trees[node.module[len("whomaywhat."):] + ".py"]
                        defined = [part for part in other.body if not isinstance(part, ast.ImportFrom)]
                        self.assertLessEqual(set(wanted), set(bound_at_top(ast.Module(defined, []))))

    def test_no_circle_of_imports(self):
        uses = {}
        for name, tree in self.trees.items():
            modules = [node.module for node in tree.body if isinstance(node, ast.ImportFrom)]
            uses[name] = [module.split(".")[1] + ".py" for module in modules if module.startswith("whomaywhat.")]
        while uses:
            free = [name for name, others in uses.items() if not any(other in uses for other in others)]
            self.assertTrue(free, "a circle among " + ", ".join(uses))
            for name in free:
                del uses[name]

    def test_names(self):
        for name, tree in self.trees.items():
            classes = [node.name for node in tree.body if isinstance(node, ast.ClassDef)]
            imports = [a.name for node in tree.body if isinstance(node, ast.ImportFrom) for a in node.names]
            methods = methods_of(tree)
            for bound in bound_within(tree):
                with self.subTest(file=name, name=bound):
                    self.assertNotIn(bound, BARRED_NAMES)
                    self.assertNotIn(bound, imports)
                    self.assertEqual(bound_within(tree).count(bound) if bound in classes else 1, 1)
                    self.assertIsNone(re.match(BARRED_BEGINNINGS, bound))
                    self.assertIsNone(re.match(BARRED_PRIVATE, bound))
                    if bound not in methods:
                        self.assertFalse(hasattr(builtins, bound))
                        self.assertFalse(bound.startswith("__"))

    def test_attributes(self):
        methods = set().union(*[methods_of(tree) for tree in self.trees.values()])
        for name, tree in self.trees.items():
            for node in ast.walk(tree):
                if isinstance(node, ast.Attribute) and not isinstance(node.ctx, ast.Load):
                    with self.subTest(file=name, attribute=node.attr):
                        self.assertNotIn(node.attr, methods | BARRED_ATTRIBUTES)

    def test_builtins(self):
        for name, tree in self.trees.items():
            known = set(bound_at_top(tree)) | set(bound_within(tree)) | BUILTINS
            for node in ast.walk(tree):
                if isinstance(node, ast.Name):
                    with self.subTest(file=name, line=node.lineno):
                        self.assertIn(node.id, known)

    def test_methods(self):
        own = set().union(*[methods_of(tree) for tree in self.trees.values()])
        for name, tree in self.trees.items():
            for node in ast.walk(tree):
                if isinstance(node, ast.Call) and isinstance(node.func, ast.Attribute):
                    with self.subTest(file=name, line=node.lineno):
                        self.assertIn(node.func.attr, own | METHODS | {"__init__"})

    def test_statements_and_expressions(self):
        for name, tree in self.trees.items():
            for node in ast.walk(tree):
                with self.subTest(file=name, line=getattr(node, "lineno", None)):
                    self.assertNotIsInstance(node, NOT_ALLOWED)
                    if isinstance(node, ast.Constant):
                        self.assertNotIsInstance(node.value, (float, complex))
                        self.assertNotIn("%", str(node.value))
                    if isinstance(node, ast.Compare):
                        for operator, right in zip(node.ops, node.comparators):
                            if isinstance(operator, (ast.Is, ast.IsNot)):
                                self.assertIn(ast.dump(right), ("Constant(value=None)", "Constant(value=True)",
                                                                "Constant(value=False)"))

    def test_barred_words(self):
        for name, text in self.sources.items():
            for token in tokenize.generate_tokens(io.StringIO(text).readline):
                if token.type != tokenize.COMMENT and not token.string.startswith('"""'):
                    with self.subTest(file=name, line=token.start[0]):
                        self.assertFalse(set(re.findall("[A-Za-z_]+", token.string)) & BARRED_WORDS)
                        self.assertNotRegex(token.string, r"\\[^nt\\'" + '"]')


if __name__ == "__main__":
    unittest.main()
