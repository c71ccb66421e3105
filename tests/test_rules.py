"""What is easily seen of the rules of the language: L1 to L28, by reading the files of the package."""
import ast
import os
import re
import unittest

ROOT = os.path.dirname(os.path.dirname(os.path.abspath(__file__)))
PACKAGE = os.path.join(ROOT, "anymargin")

FROM_LIBRARY = {
    "heapq": {"heappush", "heappop", "heapify", "heapreplace", "heappushpop"},
    "math": {"gcd", "lcm", "isqrt", "comb", "perm", "factorial"},
    "itertools": {"product", "combinations", "permutations", "chain", "accumulate", "pairwise", "islice",
                  "zip_longest"},
    "collections": {"defaultdict"},
}

BUILTINS = set("""len range enumerate zip min max sum abs sorted reversed int str bool bytes list tuple dict set
frozenset isinstance ord repr any all divmod pow getattr hasattr setattr iter next map print Exception ValueError
TypeError KeyError IndexError LookupError ZeroDivisionError ArithmeticError OverflowError RuntimeError
NotImplementedError AttributeError StopIteration NotImplemented super property staticmethod classmethod""".split())

METHODS = set("""append clear copy count endswith extend find get index insert isalnum isalpha isdigit islower isspace
isupper items join keys ljust lower lstrip partition pop remove replace reverse rfind rjust rpartition rsplit rstrip
setdefault split splitlines startswith strip update upper values zfill bit_length add discard sort isascii""".split())

SPECIAL = set("__init__ __eq__ __repr__ __str__ __len__".split())

NOWHERE = set("""register mro elements open input law version_info with_traceback add_note format format_map
__class__ __name__ __dict__""".split())

NO_WORDS = set("""type typing typing_extensions enum Enum IntEnum StrEnum Flag IntFlag Generic Protocol ABC ABCMeta
namedtuple NamedTuple TypedDict TYPE_CHECKING abstractmethod""".split())

STATEMENTS = (ast.Try, ast.Assign, ast.AugAssign, ast.If, ast.While, ast.For, ast.Return, ast.Break, ast.Continue, ast.Pass,
              ast.Raise, ast.Assert, ast.Delete, ast.Expr, ast.FunctionDef, ast.ClassDef, ast.ImportFrom)

TAKES_LISTS = ("any", "all", "min", "max", "sum", "sorted")


def files():
    found = []
    for folder, _, names in os.walk(PACKAGE):
        if "__pycache__" not in folder:
            found.extend([os.path.join(folder, name) for name in sorted(names)])
    return sorted(found)


def module_name(path):
    return os.path.relpath(path, ROOT)[:-3].replace(os.sep, ".")


def text_of(path):
    with open(path, encoding="utf-8") as file:
        return file.read()


TEXTS = {path: text_of(path) for path in files()}
TREES = {path: ast.parse(text) for path, text in TEXTS.items()}


def bound_names(tree):
    """Names that a file binds at module level, imports left out."""
    names = [node.name for node in tree.body if isinstance(node, (ast.FunctionDef, ast.ClassDef))]
    for node in tree.body:
        if isinstance(node, ast.Assign):
            names.extend([target.id for target in node.targets])
    return names


def local_names(function):
    names = [argument.arg for argument in function.args.args + function.args.kwonlyargs]
    return names + [node.id for node in ast.walk(function)
                    if isinstance(node, ast.Name) and isinstance(node.ctx, ast.Store)]


class Rules(unittest.TestCase):
    def each(self, kind=ast.AST):
        for path, tree in TREES.items():
            for node in ast.walk(tree):
                if isinstance(node, kind):
                    yield f"{os.path.relpath(path, ROOT)}:{getattr(node, 'lineno', 0)}", node

    def test_files(self):
        self.assertLessEqual(len(TEXTS), 100)
        for path in TEXTS:
            name = os.path.basename(path)
            self.assertRegex(name, r"^[a-z0-9_]+\.py$")
            self.assertTrue(os.path.exists(os.path.join(os.path.dirname(path), "__init__.py")), path)
            self.assertFalse(os.path.isdir(path[:-3]), path)

    def test_characters_and_lengths(self):
        for path, text in TEXTS.items():
            self.assertRegex(text, r"\A[ -~\n]*\Z", path)
            self.assertLessEqual(text.count("\n"), 399, path)
            for line in text.split("\n"):
                self.assertLessEqual(len(line), 120, (path, line))
        for place, node in self.each(ast.FunctionDef):
            self.assertLessEqual(node.end_lineno - node.lineno + 1, 40, place)

    def test_imports(self):
        homes = {module_name(path): bound_names(tree) for path, tree in TREES.items()}
        for place, node in self.each((ast.Import, ast.ImportFrom)):
            self.assertIsInstance(node, ast.ImportFrom, place)
            self.assertEqual(node.level, 0, place)
            for name in node.names:
                self.assertIsNone(name.asname, place)
                if node.module in FROM_LIBRARY:
                    self.assertIn(name.name, FROM_LIBRARY[node.module], place)
                else:
                    self.assertIn(name.name, homes[node.module], place)

    def test_no_two_files_import_from_each_other(self):
        needs = {module_name(path): {node.module for node in ast.walk(tree)
                                     if isinstance(node, ast.ImportFrom) and node.module.startswith("anymargin")}
                 for path, tree in TREES.items()}
        done = set()
        while len(done) < len(needs):
            more = {name for name in needs if name not in done and needs[name] <= done}
            self.assertTrue(more, sorted(set(needs) - done))
            done |= more

    def test_each_import_is_used(self):
        for path, tree in TREES.items():
            used = {node.id for node in ast.walk(tree) if isinstance(node, ast.Name)}
            imported = [name.name for node in tree.body if isinstance(node, ast.ImportFrom) for name in node.names]
            self.assertEqual([name for name in imported if name not in used], [], path)
            self.assertEqual(len(imported), len(set(imported)), path)

    def test_module_level(self):
        for path, tree in TREES.items():
            body = tree.body
            if body and isinstance(body[0], ast.Expr) and isinstance(body[0].value, ast.Constant):
                body = body[1:]
            for node in body:
                self.assertIsInstance(node, (ast.ImportFrom, ast.FunctionDef, ast.ClassDef, ast.Assign), path)
                if isinstance(node, ast.Assign):
                    self.assertTrue(len(node.targets) == 1 and isinstance(node.targets[0], ast.Name), path)
                    self.assertEqual([part for part in ast.walk(node.value) if isinstance(part, ast.Call)], [], path)
            names = bound_names(tree)
            self.assertEqual(len(names), len(set(names)), path)

    def test_no_function_stands_in_two_files(self):
        names = [name for tree in TREES.values() for name in bound_names(tree) if name.islower()]
        twice = {name for name in names if names.count(name) > 1}
        # The document lists these for two modules.
        self.assertLessEqual(twice, {"put_back", "moments", "true_run", "is_round"})

    def test_statements_and_expressions(self):
        for place, node in self.each(ast.stmt):
            self.assertIsInstance(node, STATEMENTS, place)
        for place, node in self.each((ast.Div, ast.Await, ast.Starred, ast.Set, ast.Lambda, ast.MatMult, ast.Yield)):
            self.fail((place, node))
        for place, node in self.each(ast.Constant):
            self.assertNotIsInstance(node.value, (float, complex, bytes), place)
            if isinstance(node.value, str):
                self.assertNotIn(chr(37), node.value, place)
        for place, node in self.each(ast.BinOp):
            if isinstance(node.op, ast.Pow):
                self.assertTrue(isinstance(node.right, ast.Constant) and 0 <= node.right.value <= 64, place)
        for place, node in self.each(ast.Compare):
            for sign, side in zip(node.ops, node.comparators):
                if isinstance(sign, (ast.Is, ast.IsNot)):
                    self.assertIsInstance(side, ast.Constant, place)

    def test_names(self):
        # What shows values at a prompt, as for the examples of README.md, leaves a name `_` there.
        barred = set(dir(__builtins__) if not isinstance(__builtins__, dict) else __builtins__) - {"_"}
        for path, tree in TREES.items():
            homes = set(bound_names(tree))
            imported = {name.name for node in tree.body if isinstance(node, ast.ImportFrom) for name in node.names}
            classes = {node.name for node in tree.body if isinstance(node, ast.ClassDef)}
            for node in ast.walk(tree):
                if isinstance(node, ast.FunctionDef):
                    names = local_names(node)
                    self.assertEqual([name for name in names if name in barred | imported | classes], [], node.name)
                    self.assertTrue(all([re.match(r"^(_|[a-zA-Z][a-z0-9_]*)$", name) for name in names]), node.name)
                if isinstance(node, ast.Name) and isinstance(node.ctx, ast.Load) and node.id in barred:
                    self.assertIn(node.id, BUILTINS, path)
            self.assertFalse(homes & barred, path)

    def test_methods_and_attributes(self):
        own = {node.name for _, node in self.each(ast.FunctionDef)}
        for place, node in self.each(ast.Attribute):
            self.assertNotIn(node.attr, NOWHERE, place)
            self.assertFalse(node.attr.startswith("__") and node.attr not in SPECIAL, place)
        for place, node in self.each(ast.Call):
            if isinstance(node.func, ast.Attribute):
                self.assertIn(node.func.attr, METHODS | own, place)

    def test_functions_and_classes(self):
        for place, node in self.each((ast.FunctionDef, ast.ClassDef)):
            for mark in node.decorator_list:
                self.assertIn(ast.unparse(mark), ("property", "staticmethod", "classmethod"), place)
        for place, node in self.each(ast.FunctionDef):
            self.assertFalse(node.name.startswith("__") and node.name not in SPECIAL, place)
            self.assertIsNone(node.args.vararg or node.args.kwarg, place)

    def test_generators_are_not_given_to_what_takes_lists(self):
        for place, node in self.each(ast.Call):
            if isinstance(node.func, ast.Name) and node.func.id in TAKES_LISTS:
                for argument in node.args:
                    self.assertNotIsInstance(argument, ast.GeneratorExp, place)

    def test_errors_are_made_on_the_spot(self):
        for place, node in self.each(ast.Raise):
            self.assertTrue(isinstance(node.exc, ast.Call) and isinstance(node.exc.func, ast.Name), place)

    def test_words(self):
        for path, tree in TREES.items():
            for node in ast.walk(tree):
                for field in ("id", "attr", "name", "arg"):
                    self.assertNotIn(getattr(node, field, None), NO_WORDS | {"sys", "os", "vars", "dir", "id"}, path)

    def test_docstrings(self):
        for path, tree in TREES.items():
            self.assertTrue(ast.get_docstring(tree), path)
        for place, node in self.each((ast.FunctionDef, ast.ClassDef)):
            if not node.name.startswith("__"):
                self.assertTrue(ast.get_docstring(node), place)
