"""The form of the package's code: the rules of its language that are easy to look for."""
import ast
import builtins
import re
import unittest
from pathlib import Path

FOLDER = Path(__file__).resolve().parent.parent / "idealcore"
ALLOWED_BUILTINS = set("""len range enumerate zip min max sum abs sorted reversed int str bool bytes list tuple dict set
frozenset isinstance ord repr any all divmod map iter next Exception ValueError TypeError KeyError IndexError
LookupError ZeroDivisionError ArithmeticError OverflowError RuntimeError NotImplementedError AttributeError
StopIteration NotImplemented super property staticmethod classmethod""".split())
LIBRARY = {"heapq": {"heappush", "heappop", "heapify", "heapreplace", "heappushpop"},
           "math": {"gcd", "lcm", "isqrt", "comb", "perm", "factorial"},
           "itertools": {"product", "combinations", "permutations"}}
METHODS = set("""append clear copy count endswith extend find get index insert isalnum isalpha isdigit islower isspace
isupper items join keys ljust lower lstrip partition pop remove replace reverse rfind rjust rpartition rsplit rstrip
setdefault split splitlines startswith strip update upper values zfill bit_length removeprefix removesuffix
add discard""".split())
BARRED = set("""register mro elements open input law version_info with_traceback add_note attrgetter breakpoint builtins
compile copyright credits delattr dir eval exec exit gc getattr globals hasattr help id importlib license locals
methodcaller os quit setattr type vars sys typing enum Enum Generic Protocol ABC namedtuple dataclass""".split())
NODES_NOT_ALLOWED = (ast.Global, ast.AsyncFunctionDef, ast.AsyncFor, ast.AsyncWith, ast.Await, ast.Div)


def files():
    return sorted(FOLDER.glob("*.py"))


class Form(unittest.TestCase):

    def trees(self):
        return [(path.name, ast.parse(path.read_text())) for path in files()]

    def test_files(self):
        for path in files():
            text = path.read_text()
            self.assertRegex(path.name, r"^[a-z_]+\.py$")
            self.assertTrue(all(c == "\n" or " " <= c <= "~" for c in text), path.name)
            self.assertLess(len(text.splitlines()), 400, path.name)
            self.assertLessEqual(max(len(line) for line in text.splitlines()), 120, path.name)
        self.assertEqual([p for p in FOLDER.iterdir() if p.suffix != ".py" and p.name != "__pycache__"], [])

    def test_functions_are_small(self):
        for name, tree in self.trees():
            for node in ast.walk(tree):
                if isinstance(node, ast.FunctionDef):
                    self.assertLessEqual(node.end_lineno - node.lineno + 1, 40, (name, node.name))

    def test_names(self):
        for name, tree in self.trees():
            taken = {node.name for node in ast.walk(tree) if isinstance(node, ast.ClassDef)}
            for node in ast.walk(tree):
                if isinstance(node, ast.ImportFrom):
                    taken |= {alias.name for alias in node.names}
            bound = []
            for node in ast.walk(tree):
                if isinstance(node, ast.arg):
                    bound.append(node.arg)
                elif isinstance(node, ast.Name) and isinstance(node.ctx, ast.Store):
                    bound.append(node.id)
                elif isinstance(node, ast.FunctionDef):
                    bound.append(node.name)
            for word in bound:
                if re.fullmatch(r"__[a-z]+__", word):
                    continue
                self.assertNotIn(word, taken, name)
                self.assertNotIn(word, BARRED, name)
                self.assertFalse(hasattr(builtins, word), (name, word))
                self.assertFalse(word.startswith("__"), (name, word))

    def test_one_binding_at_module_level(self):
        for name, tree in self.trees():
            bound = []
            for node in tree.body:
                if isinstance(node, (ast.FunctionDef, ast.ClassDef)):
                    bound.append(node.name)
                elif isinstance(node, ast.ImportFrom):
                    bound += [alias.name for alias in node.names]
                elif isinstance(node, ast.Assign):
                    bound += [target.id for target in node.targets]
                else:
                    self.assertIsInstance(node, ast.Expr, name)
                    self.assertIsInstance(node.value, ast.Constant, name)
            self.assertEqual(len(bound), len(set(bound)), name)

    def test_imports(self):
        uses = {}
        for name, tree in self.trees():
            own = uses.setdefault(name[:-3], set())
            for node in ast.walk(tree):
                self.assertNotIsInstance(node, ast.Import)
                if not isinstance(node, ast.ImportFrom):
                    continue
                self.assertEqual(node.level, 0)
                words = {alias.name for alias in node.names}
                self.assertTrue(all(alias.asname is None for alias in node.names))
                if node.module in LIBRARY:
                    self.assertLessEqual(words, LIBRARY[node.module])
                    continue
                package, module = node.module.split(".")
                self.assertEqual(package, "idealcore")
                own.add(module)
                defined = ast.parse((FOLDER / f"{module}.py").read_text())
                names = {d.name for d in defined.body if isinstance(d, (ast.FunctionDef, ast.ClassDef))}
                names |= {t.id for d in defined.body if isinstance(d, ast.Assign) for t in d.targets}
                self.assertLessEqual(words, names, name)
                text = (FOLDER / name).read_text()
                for word in words:
                    self.assertGreater(len(re.findall(rf"\b{word}\b", text)), 1, (name, word))
        done = set()
        while len(done) < len(uses):
            ready = {module for module, wanted in uses.items() if module not in done and wanted <= done}
            self.assertTrue(ready, "files import from each other")
            done |= ready

    def test_statements_and_signs(self):
        for name, tree in self.trees():
            for node in ast.walk(tree):
                self.assertNotIsInstance(node, NODES_NOT_ALLOWED, (name, getattr(node, "lineno", 0)))
                if isinstance(node, ast.BinOp) and isinstance(node.op, ast.Pow):
                    self.assertIsInstance(node.right, ast.Constant, name)
                    self.assertLessEqual(node.right.value, 64)
                if isinstance(node, ast.Constant) and isinstance(node.value, (float, complex)):
                    self.fail((name, node.value))
                if isinstance(node, ast.ClassDef):
                    self.assertEqual(node.decorator_list, [], name)
                if isinstance(node, ast.Compare):
                    for sign, right in zip(node.ops, node.comparators):
                        if isinstance(sign, (ast.Is, ast.IsNot)):
                            self.assertIsNone(right.value, name)

    def test_builtins(self):
        for name, tree in self.trees():
            bound = {n.id for n in ast.walk(tree) if isinstance(n, ast.Name) and isinstance(n.ctx, ast.Store)}
            for node in ast.walk(tree):
                if isinstance(node, ast.Name) and node.id not in bound and hasattr(builtins, node.id):
                    self.assertIn(node.id, ALLOWED_BUILTINS, name)

    def test_methods_of_builtin_values(self):
        own = set()
        for _, tree in self.trees():
            own |= {node.name for node in ast.walk(tree) if isinstance(node, ast.FunctionDef)}
            self.assertFalse({"__eq__", "__len__", "__add__"} & own)
        for name, tree in self.trees():
            for node in ast.walk(tree):
                if isinstance(node, ast.Call) and isinstance(node.func, ast.Attribute):
                    word = node.func.attr
                    self.assertTrue(word in METHODS or word in own or word == "__init__", (name, word))
                if isinstance(node, ast.Call) and isinstance(node.func, ast.Name) and node.keywords:
                    words = {keyword.arg for keyword in node.keywords}
                    if hasattr(builtins, node.func.id):
                        self.assertLessEqual(words, {"key", "reverse", "default", "start"}, name)

    def test_attributes(self):
        barred = set("""items keys values pop update append clear extend insert remove reverse setdefault sort args encode
            decode hex fromhex format""".split()) | BARRED
        for name, tree in self.trees():
            for node in ast.walk(tree):
                if isinstance(node, ast.ClassDef):
                    methods = {m.name for m in node.body if isinstance(m, ast.FunctionDef)}
                    stored = {n.attr for n in ast.walk(node) if isinstance(n, ast.Attribute)
                              and isinstance(n.ctx, ast.Store)}
                    self.assertFalse(stored & (barred | methods), (name, node.name))

    def test_library_is_called_by_position(self):
        words = {word for some in LIBRARY.values() for word in some}
        for name, tree in self.trees():
            own = {alias.name for node in ast.walk(tree) if isinstance(node, ast.ImportFrom)
                   and node.module in LIBRARY for alias in node.names}
            called = {id(node.func) for node in ast.walk(tree) if isinstance(node, ast.Call)}
            for node in ast.walk(tree):
                if isinstance(node, ast.Call) and isinstance(node.func, ast.Name) and node.func.id in own & words:
                    self.assertEqual(node.keywords, [], (name, node.lineno))
                if isinstance(node, ast.Name) and node.id in own:
                    self.assertIn(id(node), called, (name, node.lineno))

    def test_views_are_iterated_on_the_spot(self):
        heads = {"zip", "enumerate", "reversed", "range", "items", "keys", "values"}
        takers = {"list", "tuple", "dict", "sorted", "sum", "any", "all", "enumerate", "zip", "min", "max", "reversed",
                  "map"}
        for name, tree in self.trees():
            allowed = set()
            for node in ast.walk(tree):
                if isinstance(node, (ast.For, ast.comprehension)):
                    allowed.add(id(node.iter))
                if isinstance(node, ast.Call) and isinstance(node.func, ast.Name) and node.func.id in takers:
                    allowed |= {id(argument) for argument in node.args}
            for node in ast.walk(tree):
                if isinstance(node, ast.Call):
                    word = node.func.id if isinstance(node.func, ast.Name) else getattr(node.func, "attr", "")
                    if word in heads:
                        self.assertIn(id(node), allowed, (name, node.lineno))

    def test_strings(self):
        for path in files():
            tree = ast.parse(path.read_text())
            docs = set()
            for node in ast.walk(tree):
                if isinstance(node, (ast.Module, ast.FunctionDef, ast.ClassDef)) and ast.get_docstring(node):
                    docs.add(id(node.body[0].value))
            for node in ast.walk(tree):
                if isinstance(node, ast.Constant) and isinstance(node.value, str):
                    self.assertNotIn("%", node.value, path.name)
                    self.assertNotIn("\\", node.value, path.name)
                    if id(node) not in docs:
                        self.assertFalse(BARRED & set(re.findall(r"\w+", node.value)) - {"type"}, path.name)

    def test_interface_is_documented(self):
        for name, tree in self.trees():
            for node in ast.walk(tree):
                if isinstance(node, (ast.Module, ast.ClassDef)) or isinstance(node, ast.FunctionDef) \
                        and node.name != "__init__":
                    self.assertIsNotNone(ast.get_docstring(node), (name, getattr(node, "name", "")))


if __name__ == "__main__":
    unittest.main()
