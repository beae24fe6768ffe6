"""Rules of ../shared/LANGUAGE.md that a look at the files of the package can check."""

import ast
import builtins
import pathlib
import unittest
import warnings

ROOT = pathlib.Path(__file__).resolve().parent.parent
PACKAGE = ROOT / "firmground"

LIBRARY = {
    "heapq": {"heappush", "heappop", "heapify", "heapreplace", "heappushpop"},
    "math": {"gcd", "lcm", "isqrt", "comb", "perm", "factorial"},
    "itertools": {"product", "combinations", "permutations", "chain", "accumulate", "pairwise",
                  "islice", "zip_longest"},
    "collections": {"defaultdict", "deque"},
    "__future__": {"annotations"},
}

BUILTINS = set("""
    len range enumerate zip min max sum abs sorted reversed int str bool bytes list tuple dict set
    frozenset isinstance ord repr any all divmod pow getattr hasattr setattr iter next map type
    super property staticmethod classmethod object float
    Exception ValueError TypeError KeyError IndexError LookupError ZeroDivisionError
    ArithmeticError OverflowError RuntimeError NotImplementedError AttributeError StopIteration
    NotImplemented
""".split())

NEVER = {"register", "mro", "elements", "open", "input", "law", "version_info",
         "with_traceback", "add_note"}

UNCAUGHT = {"Exception", "TypeError", "ArithmeticError", "OverflowError", "RuntimeError",
            "NotImplementedError", "AttributeError"}

def files():
    return sorted(PACKAGE.rglob("*.py"))


def nodes():
    for path in files():
        for node in ast.walk(ast.parse(path.read_text())):
            yield path.name, node


def docstrings(tree):
    for node in ast.walk(tree):
        if isinstance(node, (ast.Module, ast.ClassDef, ast.FunctionDef)):
            if node.body and isinstance(node.body[0], ast.Expr):
                yield node.body[0].value


class Files(unittest.TestCase):
    def test_only_python_files_with_plain_names(self):
        for path in PACKAGE.rglob("*"):
            if path.is_dir() or "__pycache__" in path.parts:
                continue
            with self.subTest(path=str(path)):
                self.assertEqual(path.suffix, ".py")
                self.assertEqual(path.name, path.name.lower())
                self.assertTrue(path.stem.isidentifier())
                self.assertFalse(path.stem.startswith(("test", "law_")))
        self.assertTrue((PACKAGE / "__init__.py").is_file())

    def test_characters_and_sizes(self):
        for path in files():
            with self.subTest(path=path.name):
                text = path.read_bytes().decode("ascii")
                self.assertTrue(all(char == "\n" or " " <= char <= "~" for char in text))
                self.assertLessEqual(len(text.splitlines()), 399)
                self.assertLessEqual(max(map(len, text.splitlines()), default=0), 120)

    def test_no_warning(self):
        for path in files():
            with self.subTest(path=path.name), warnings.catch_warnings():
                warnings.simplefilter("error")
                compile(path.read_text(), str(path), "exec")


class Code(unittest.TestCase):
    def test_function_sizes(self):
        for name, node in nodes():
            if isinstance(node, ast.FunctionDef):
                with self.subTest(file=name, function=node.name):
                    self.assertLessEqual(node.end_lineno - node.lineno + 1, 40)

    def test_imports(self):
        for name, node in nodes():
            if isinstance(node, ast.Import):
                self.assertEqual((name, [each.name for each in node.names]), ("__main__.py", ["sys"]))
            if isinstance(node, ast.ImportFrom):
                with self.subTest(file=name, line=node.lineno):
                    self.assertEqual(node.level, 0)
                    words = {each.name for each in node.names}
                    if node.module in LIBRARY:
                        self.assertLessEqual(words, LIBRARY[node.module])
                    else:
                        self.assertTrue(node.module.startswith("firmground."))
                        self.assertNotIn("*", words)

    def test_module_level(self):
        allowed = (ast.ImportFrom, ast.FunctionDef, ast.ClassDef, ast.Assign, ast.AnnAssign)
        for path in files():
            tree = ast.parse(path.read_text())
            for node in tree.body:
                with self.subTest(file=path.name, line=node.lineno):
                    if path.name == "__main__.py" and isinstance(node, (ast.Import, ast.If)):
                        continue
                    if node is tree.body[0] and ast.get_docstring(tree) is not None:
                        continue
                    self.assertIsInstance(node, allowed)

    def test_statements_and_signs(self):
        barred = (ast.AsyncFunctionDef, ast.AsyncFor, ast.AsyncWith, ast.Await, ast.Div)
        for name, node in nodes():
            with self.subTest(file=name, line=getattr(node, "lineno", None)):
                self.assertNotIsInstance(node, barred)
                if isinstance(node, ast.Constant):
                    self.assertNotIsInstance(node.value, (float, complex))
                if isinstance(node, ast.ClassDef):
                    self.assertEqual((node.decorator_list, node.keywords), ([], []))

    def test_no_barred_character_in_strings(self):
        for path in files():
            tree = ast.parse(path.read_text())
            texts = {id(node) for node in docstrings(tree)}
            for node in ast.walk(tree):
                if isinstance(node, ast.Constant) and isinstance(node.value, str):
                    if id(node) not in texts:
                        self.assertNotIn("%", node.value, path.name)

    def test_names(self):
        for name, node in nodes():
            for word in words_of(node):
                with self.subTest(file=name, word=word):
                    self.assertNotIn(word, NEVER)
                    self.assertFalse(word.startswith("_wall"))
            if isinstance(node, ast.Name) and hasattr(builtins, node.id):
                allowed = BUILTINS | ({"print"} if name == "__main__.py" else set())
                self.assertIn(node.id, allowed, name)
                self.assertIsInstance(node.ctx, ast.Load, name)

    def test_is_stands_beside_none_true_and_false(self):
        for name, node in nodes():
            if isinstance(node, ast.Compare):
                for sign, right in zip(node.ops, node.comparators):
                    if isinstance(sign, (ast.Is, ast.IsNot)):
                        self.assertIsInstance(right, ast.Constant, (name, node.lineno))

    def test_exact_classes_are_asked_for_in_one_way(self):
        for path in files():
            tree = ast.parse(path.read_text())
            asked = {id(node.left.func) for node in ast.walk(tree)
                     if isinstance(node, ast.Compare) and isinstance(node.left, ast.Call)
                     and isinstance(node.ops[0], (ast.Eq, ast.NotEq)) and len(node.ops) == 1
                     and isinstance(node.comparators[0], ast.Name)}
            for node in ast.walk(tree):
                if isinstance(node, ast.Name) and node.id == "type":
                    self.assertIn(id(node), asked, (path.name, node.lineno))

    def test_imported_names_are_defined_in_that_very_file(self):
        for name, node in nodes():
            if isinstance(node, ast.ImportFrom) and node.module.startswith("firmground."):
                home = ast.parse((ROOT / (node.module.replace(".", "/") + ".py")).read_text())
                names = {each.name for each in home.body
                         if isinstance(each, (ast.FunctionDef, ast.ClassDef))}
                names |= {target.id for each in home.body if isinstance(each, ast.Assign)
                          for target in each.targets}
                for each in node.names:
                    self.assertIn(each.name, names, name)
                    self.assertFalse(each.name.startswith("_"), name)

    def test_no_two_files_import_each_other(self):
        above = {path.stem: {node.module.split(".")[1] for node in ast.walk(ast.parse(path.read_text()))
                             if isinstance(node, ast.ImportFrom) and "." in node.module}
                 for path in files()}
        while above:
            free = [name for name in above if not above[name] & set(above)]
            self.assertNotEqual(free, [], above)
            for name in free:
                del above[name]

    def test_each_imported_name_is_used(self):
        for path in files():
            tree = ast.parse(path.read_text())
            used = {node.id for node in ast.walk(tree) if isinstance(node, ast.Name)}
            for node in ast.walk(tree):
                if isinstance(node, ast.ImportFrom):
                    for each in node.names:
                        self.assertIn(each.name, used, path.name)

    def test_handlers(self):
        for name, node in nodes():
            if isinstance(node, ast.ExceptHandler):
                self.assertIsNotNone(node.type, name)
                caught = {each.id for each in ast.walk(node.type) if isinstance(each, ast.Name)}
                self.assertFalse(caught & UNCAUGHT, name)


def words_of(node):
    """The names that one node of a tree has."""
    for field in ("id", "attr", "name", "arg", "asname"):
        word = getattr(node, field, None)
        if isinstance(word, str):
            yield word
