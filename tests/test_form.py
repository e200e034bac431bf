"""The package keeps to the subset of the language, as far as its text shows simply."""

import ast
import builtins
import pathlib
import unittest
import warnings

PACKAGE = pathlib.Path(__file__).resolve().parent.parent / "loopworth"

BUILTINS = frozenset(
    "len range enumerate zip min max sum abs sorted reversed int str bool bytes list tuple dict set frozenset "
    "isinstance ord repr any all divmod pow getattr hasattr setattr map iter next super property staticmethod "
    "classmethod Exception ValueError TypeError KeyError IndexError LookupError ZeroDivisionError "
    "ArithmeticError OverflowError RuntimeError NotImplementedError AttributeError StopIteration "
    "NotImplemented type True False None object float".split()
)
LIBRARY = {
    "heapq": "heappush heappop heapify heapreplace heappushpop".split(),
    "math": "gcd lcm isqrt comb perm factorial".split(),
    "itertools": "product combinations permutations chain accumulate pairwise islice zip_longest".split(),
    "collections": "defaultdict deque".split(),
}
METHODS = frozenset(
    "append clear copy count endswith extend find get index insert isalnum isalpha isdigit islower isspace isupper "
    "items join keys ljust lower lstrip partition pop remove replace reverse rfind rjust rpartition rsplit rstrip "
    "setdefault split splitlines startswith strip update upper values zfill bit_length add discard sort "
    "__init__".split()
)
BARRED = frozenset("register mro elements open input law version_info with_traceback add_note".split())
NODES = (
    ast.AsyncFunctionDef, ast.AsyncFor, ast.AsyncWith, ast.Await, ast.Div, ast.MatMult, ast.TryStar, ast.Global,
)


def files():
    return sorted(PACKAGE.rglob("*.py"))


def trees():
    for file in files():
        yield file.name, ast.parse(file.read_text())


def bound_names(tree):
    for node in ast.walk(tree):
        if isinstance(node, ast.Name) and not isinstance(node.ctx, ast.Load):
            yield node.id
        elif isinstance(node, ast.arg):
            yield node.arg
        elif isinstance(node, ast.ClassDef):
            yield node.name


def functions(tree):
    return [node for node in ast.walk(tree) if isinstance(node, ast.FunctionDef)]


class Texts(unittest.TestCase):
    def test_the_folder_holds_python_files_alone(self):
        for path in PACKAGE.rglob("*"):
            if path.is_file() and "__pycache__" not in path.parts:
                self.assertEqual(path.suffix, ".py")
        self.assertTrue((PACKAGE / "__init__.py").exists())

    def test_characters_and_sizes(self):
        for file in files():
            text = file.read_text()
            with self.subTest(file=file.name):
                self.assertEqual([sign for sign in text if not (" " <= sign <= "~" or sign == "\n")], [])
                self.assertLessEqual(len(text.splitlines()), 399)
                self.assertLessEqual(max([len(line) for line in text.splitlines()]), 120)

    def test_functions_are_short(self):
        for name, tree in trees():
            for function in functions(tree):
                self.assertLessEqual(function.end_lineno - function.lineno + 1, 40, (name, function.name))

    def test_no_warnings(self):
        for file in files():
            with warnings.catch_warnings():
                warnings.simplefilter("error")
                compile(file.read_text(), file.name, "exec")


class Statements(unittest.TestCase):
    def test_imports(self):
        names = [file.stem for file in files()]
        for name, tree in trees():
            for node in ast.walk(tree):
                self.assertNotIsInstance(node, ast.Import, name)
                if isinstance(node, ast.ImportFrom):
                    self.assertIn(node, tree.body, name)
                    self.assertEqual(node.level, 0)
                    if node.module.startswith("loopworth."):
                        self.assertIn(node.module[len("loopworth."):], names)
                    else:
                        for alias in node.names:
                            self.assertIn(alias.name, LIBRARY[node.module], name)

    def test_no_two_files_import_each_other(self):
        above = {}
        for name, tree in trees():
            imports = [node.module for node in tree.body if isinstance(node, ast.ImportFrom)]
            above[name] = [module.split(".")[-1] + ".py" for module in imports if module.startswith("loopworth.")]
        for name in above:
            reached = list(above[name])
            for other in reached:
                reached.extend([far for far in above[other] if far not in reached])
            self.assertNotIn(name, reached)

    def test_module_level(self):
        allowed = (ast.ImportFrom, ast.FunctionDef, ast.ClassDef, ast.Assign)
        for name, tree in trees():
            for node in tree.body[1:]:
                self.assertIsInstance(node, allowed, name)
                if isinstance(node, ast.Assign):
                    ast.literal_eval(node.value)
            self.assertIsNotNone(ast.get_docstring(tree), name)

    def test_what_is_not_in_the_subset(self):
        for name, tree in trees():
            for node in ast.walk(tree):
                self.assertNotIsInstance(node, NODES, name)
                if isinstance(node, ast.Constant):
                    self.assertNotIsInstance(node.value, (float, complex), name)
                    self.assertNotIn("%", node.value if isinstance(node.value, str) else "", name)


class Names(unittest.TestCase):
    def test_builtins_that_are_used(self):
        for name, tree in trees():
            for node in ast.walk(tree):
                if isinstance(node, ast.Name) and hasattr(builtins, node.id):
                    self.assertIn(node.id, BUILTINS, name)

    def test_no_name_of_a_builtin_is_bound(self):
        for name, tree in trees():
            bound = list(bound_names(tree)) + [node.name for node in tree.body if isinstance(node, ast.FunctionDef)]
            for word in bound:
                self.assertFalse(hasattr(builtins, word), (name, word))
                self.assertNotIn(word, BARRED, name)

    def test_no_local_name_is_an_import_or_a_class(self):
        for name, tree in trees():
            taken = [alias.name for node in tree.body if isinstance(node, ast.ImportFrom) for alias in node.names]
            taken += [node.name for node in tree.body if isinstance(node, ast.ClassDef)]
            for function in functions(tree):
                for word in bound_names(function):
                    self.assertNotIn(word, taken, (name, function.name))

    def test_methods_that_are_called(self):
        own = {node.name for _, tree in trees() for node in functions(tree)}
        for name, tree in trees():
            for node in ast.walk(tree):
                if isinstance(node, ast.Call) and isinstance(node.func, ast.Attribute):
                    self.assertIn(node.func.attr, METHODS | own, name)
