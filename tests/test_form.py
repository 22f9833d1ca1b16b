"""The rules of form that a test can see: sizes, characters, imports and names."""

import ast
import unittest
from pathlib import Path

PACKAGE = Path(__file__).resolve().parent.parent / "newtables"
FILES = sorted(PACKAGE.glob("*.py"))
BUILTINS = set(
    "len range enumerate zip min max sum abs sorted reversed int str bool list tuple dict set isinstance ord repr "
    "any all divmod pow iter next map type super property staticmethod classmethod getattr hasattr setattr "
    "Exception ValueError TypeError KeyError IndexError LookupError NotImplemented NotImplementedError".split()
)
LIBRARY = {
    "__future__": {"annotations"},
    "collections": {"defaultdict", "deque"},
    "heapq": {"heappush", "heappop", "heapify", "heapreplace", "heappushpop"},
    "itertools": {
        "product", "combinations", "permutations", "chain", "accumulate", "pairwise", "islice", "zip_longest",
    },
    "math": {"gcd", "lcm", "isqrt", "comb", "perm", "factorial"},
}

METHODS = set(
    "append clear copy count endswith extend find get index insert isalnum isalpha isdigit islower isspace isupper "
    "items join keys ljust lower lstrip partition pop remove replace reverse rfind rjust rpartition rsplit rstrip "
    "setdefault split splitlines startswith strip update upper values zfill bit_length".split()
)
NO_NAMES = set(
    "register mro elements open input law version_info with_traceback add_note eval exec compile exit globals locals "
    "vars dir help id os sys gc license quit".split()
)
NO_WORDS = set(
    "type typing typing_extensions enum Enum IntEnum StrEnum Flag IntFlag Generic Protocol ABC ABCMeta namedtuple "
    "NamedTuple TypedDict TYPE_CHECKING abstractmethod".split()
)


def tree_of(path):
    return ast.parse(path.read_text())


def local_names(function):
    """The parameters and all names that a function assigns, caught errors among them."""
    names = {node.arg for node in ast.walk(function) if isinstance(node, ast.arg)}
    names |= {node.name for node in ast.walk(function) if isinstance(node, ast.ExceptHandler) and node.name}
    return names | {node.id for node in ast.walk(function)
                    if isinstance(node, ast.Name) and isinstance(node.ctx, ast.Store)}


class FormTest(unittest.TestCase):

    def test_there_are_files(self):
        self.assertGreaterEqual(len(FILES), 5)

    def test_files_and_lines(self):
        for path in FILES:
            text = path.read_text()
            with self.subTest(path=path.name):
                self.assertLessEqual(len(text.splitlines()), 399)
                self.assertLessEqual(max(map(len, text.splitlines())), 120)
                self.assertTrue(all(sign == "\n" or " " <= sign <= "~" for sign in text))

    def test_functions_are_short(self):
        for path in FILES:
            for node in ast.walk(tree_of(path)):
                if isinstance(node, ast.FunctionDef):
                    with self.subTest(path=path.name, name=node.name):
                        self.assertLessEqual(node.end_lineno - node.lineno + 1, 40)

    def test_imports(self):
        for path in FILES:
            for node in ast.walk(tree_of(path)):
                self.assertNotIsInstance(node, ast.Import)
                if isinstance(node, ast.ImportFrom):
                    names = {alias.name for alias in node.names}
                    with self.subTest(path=path.name, names=names):
                        self.assertEqual(node.level, 0)
                        if node.module in LIBRARY:
                            self.assertLessEqual(names, LIBRARY[node.module])
                        else:
                            self.check_own_import(node.module, names)

    def check_own_import(self, module, names):
        package, file = module.split(".")
        self.assertEqual(package, "newtables")
        bound = set()
        for node in tree_of(PACKAGE / (file + ".py")).body:
            if isinstance(node, (ast.FunctionDef, ast.ClassDef)):
                bound.add(node.name)
            if isinstance(node, ast.Assign):
                bound.add(node.targets[0].id)
        self.assertLessEqual(names, bound)

    def test_no_import_goes_round(self):
        imports = {path.stem: [node.module.split(".")[1] for node in tree_of(path).body
                               if isinstance(node, ast.ImportFrom) and node.module.startswith("newtables.")]
                   for path in FILES}
        self.assertEqual(imports["__init__"], [])
        while imports:
            free = [file for file in imports if not set(imports[file]) & set(imports)]
            self.assertNotEqual(free, [])
            for file in free:
                del imports[file]

    def test_builtins_and_nodes(self):
        banned = (ast.AsyncFunctionDef, ast.Div)
        for path in FILES:
            tree = tree_of(path)
            bound = {node.name for node in tree.body if isinstance(node, (ast.FunctionDef, ast.ClassDef))}
            bound |= {alias.name for node in tree.body if isinstance(node, ast.ImportFrom) for alias in node.names}
            bound |= local_names(tree)
            for node in ast.walk(tree):
                self.assertNotIsInstance(node, banned)
                if isinstance(node, ast.Constant):
                    self.assertNotIsInstance(node.value, (float, complex))
                if isinstance(node, ast.Name) and isinstance(node.ctx, ast.Load):
                    with self.subTest(path=path.name, name=node.id):
                        self.assertIn(node.id, bound | BUILTINS)

    def test_no_local_name_is_an_import_or_a_builtin(self):
        for path in FILES:
            tree = tree_of(path)
            taken = {alias.name for node in tree.body if isinstance(node, ast.ImportFrom) for alias in node.names}
            for node in ast.walk(tree):
                if isinstance(node, ast.FunctionDef):
                    with self.subTest(path=path.name, name=node.name):
                        self.assertEqual(local_names(node) & (taken | BUILTINS), set())

    def test_methods(self):
        own = {node.name for path in FILES for top in tree_of(path).body if isinstance(top, ast.ClassDef)
               for node in top.body if isinstance(node, ast.FunctionDef)}
        self.assertEqual(own & METHODS, set())
        for path in FILES:
            for node in ast.walk(tree_of(path)):
                if isinstance(node, ast.Call) and isinstance(node.func, ast.Attribute):
                    with self.subTest(path=path.name, method=node.func.attr):
                        self.assertIn(node.func.attr, METHODS | own)

    def test_names_and_words_that_are_not_used(self):
        for path in FILES:
            for node in ast.walk(tree_of(path)):
                names = [getattr(node, part, None) for part in ("id", "name", "arg", "attr")]
                self.assertEqual({name for name in names if isinstance(name, str)} & NO_NAMES, set())
                for name in names:
                    self.assertFalse(isinstance(name, str) and name.startswith("_wall"))
                if isinstance(node, ast.Name):
                    self.assertNotIn(node.id, NO_WORDS - {"type"})
                if isinstance(node, ast.Constant) and isinstance(node.value, str):
                    self.assertEqual(set(node.value.split()) & (NO_WORDS - {"type"}), set())

    def test_kinds_are_asked_in_comparisons_alone(self):
        for path in FILES:
            tree = tree_of(path)
            asked = [node.left for node in ast.walk(tree) if isinstance(node, ast.Compare)]
            asked += [node.value for node in ast.walk(tree)
                      if isinstance(node, ast.Attribute) and node.attr == "__name__"]
            for node in ast.walk(tree):
                if isinstance(node, ast.Call) and isinstance(node.func, ast.Name) and node.func.id == "type":
                    self.assertIn(node, asked)

    def test_exponents_and_errors(self):
        own = {node.name for node in tree_of(PACKAGE / "errors.py").body if isinstance(node, ast.ClassDef)}
        for path in FILES:
            for node in ast.walk(tree_of(path)):
                if isinstance(node, ast.BinOp) and isinstance(node.op, ast.Pow):
                    self.assertIn(ast.literal_eval(node.right), range(65))
                if isinstance(node, ast.ExceptHandler):
                    self.assertIn(node.type.id, own)
                if isinstance(node, ast.Raise):
                    self.assertIn(node.exc.func.id, own)

    def test_no_string_has_the_sign_of_formats(self):
        for path in FILES:
            for node in ast.walk(tree_of(path)):
                if isinstance(node, ast.Constant) and isinstance(node.value, str):
                    self.assertNotIn("%", node.value)


if __name__ == "__main__":
    unittest.main()
