"""Tests of what can be seen of LANGUAGE.md in the text of the package's files."""

import ast
import builtins
import pathlib
import unittest

PACKAGE = pathlib.Path(__file__).resolve().parent.parent / "threecopies"
LIBRARY = {"heapq": {"heappush", "heappop", "heapify", "heapreplace", "heappushpop"},
           "math": {"gcd", "lcm", "isqrt", "comb", "perm", "factorial"},
           "itertools": {"product", "combinations", "permutations", "chain", "accumulate",
                         "pairwise", "islice", "zip_longest"},
           "collections": {"defaultdict", "deque"}}
BUILTINS = set("""len range enumerate zip min max sum abs sorted reversed int str bool bytes list
    tuple dict set frozenset isinstance ord repr any all divmod pow map iter next super type
    Exception ValueError TypeError KeyError IndexError LookupError ZeroDivisionError
    ArithmeticError OverflowError RuntimeError NotImplementedError AttributeError StopIteration
    NotImplemented""".split())
DUNDERS = {"__init__", "__eq__", "__repr__", "__str__", "__len__", "__enter__", "__exit__",
           "__call__", "__iter__"}
METHODS = set("""append clear copy count endswith extend find get index insert isalnum isalpha
    isdigit islower isspace isupper items join keys ljust lower lstrip partition pop remove replace
    reverse rfind rjust rpartition rsplit rstrip setdefault split splitlines startswith strip
    update upper values zfill bit_length""".split())
BARRED_ATTRIBUTES = set("""items keys values pop update append clear extend insert remove reverse
    setdefault sort args encode decode hex fromhex format mro real imag""".split())
BARRED = (ast.AsyncFunctionDef, ast.AsyncFor, ast.AsyncWith, ast.Global, ast.Div, ast.GeneratorExp,
          ast.Await, ast.AnnAssign)


def sources():
    return sorted(path for path in PACKAGE.rglob("*") if "__pycache__" not in path.parts)


def trees():
    return [(path, ast.parse(path.read_text("utf-8"))) for path in sources()]


class TestLanguage(unittest.TestCase):
    def test_the_folder_contains_plain_python_files_alone(self):
        self.assertIn("__init__.py", [path.name for path in sources()])
        for path in sources():
            self.assertTrue(path.is_file() and path.suffix == ".py", path)
            self.assertRegex(path.stem, "^[a-z_0-9]+$")

    def test_sizes_and_signs(self):
        for path in sources():
            text = path.read_text("utf-8")
            self.assertTrue(all(sign == "\n" or " " <= sign <= "~" for sign in text), path)
            self.assertLessEqual(len(text.splitlines()), 399, path)
            self.assertLessEqual(max(len(line) for line in text.splitlines()), 120, path)
        for path, tree in trees():
            for node in ast.walk(tree):
                if isinstance(node, ast.FunctionDef):
                    self.assertLessEqual(node.end_lineno - node.lineno + 1, 40, (path, node.name))
                    self.assertEqual(node.decorator_list, [], (path, node.name))

    def test_imports(self):
        for path, tree in trees():
            for node in ast.walk(tree):
                self.assertNotIsInstance(node, ast.Import, path)
                if isinstance(node, ast.ImportFrom):
                    self.assertIn(node, tree.body)
                    names = {alias.name for alias in node.names}
                    self.assertTrue(all(alias.asname is None for alias in node.names), path)
                    if node.module in LIBRARY:
                        self.assertLessEqual(names, LIBRARY[node.module])
                    else:
                        home = PACKAGE / (node.module.split(".")[1] + ".py")
                        body = ast.parse(home.read_text("utf-8")).body
                        own = {part.name for part in body if hasattr(part, "name")}
                        own |= {target.id for part in body if isinstance(part, ast.Assign)
                                for target in part.targets}
                        self.assertLessEqual(names, own)

    def test_each_import_is_used(self):
        for path, tree in trees():
            used = {node.id for node in ast.walk(tree) if isinstance(node, ast.Name)}
            for node in tree.body:
                if isinstance(node, ast.ImportFrom):
                    self.assertLessEqual({alias.name for alias in node.names}, used, path)

    def test_module_level(self):
        for path, tree in trees():
            for node in tree.body[1:]:
                self.assertIsInstance(node, (ast.ImportFrom, ast.FunctionDef, ast.ClassDef,
                                             ast.Assign), path)
            self.assertIsNotNone(ast.get_docstring(tree), path)

    def test_no_file_imports_itself_by_way_of_others(self):
        names = {path.stem: {node.module.split(".")[1] for node in tree.body
                             if isinstance(node, ast.ImportFrom) and node.module not in LIBRARY}
                 for path, tree in trees()}
        while names:
            free = [name for name, needed in names.items() if not needed & set(names)]
            self.assertNotEqual(free, [], names)
            names = {name: needed for name, needed in names.items() if name not in free}

    def test_names_are_bound_once(self):
        for path, tree in trees():
            bound = [alias.name for node in tree.body if isinstance(node, ast.ImportFrom)
                     for alias in node.names]
            classes = [node.name for node in tree.body if isinstance(node, ast.ClassDef)]
            outer = set(bound + classes)
            bound += [part.name for part in tree.body if hasattr(part, "name")]
            bound += [target.id for part in tree.body if isinstance(part, ast.Assign)
                      for target in part.targets]
            self.assertEqual(len(bound), len(set(bound)), path)
            for node in ast.walk(tree):
                if isinstance(node, ast.arg):
                    self.assertNotIn(node.arg, outer, path)
                if isinstance(node, ast.Name) and isinstance(node.ctx, ast.Store):
                    self.assertNotIn(node.id, outer, path)

    def test_methods_and_attributes(self):
        for path, tree in trees():
            for kind in [node for node in tree.body if isinstance(node, ast.ClassDef)]:
                methods = [node.name for node in kind.body if isinstance(node, ast.FunctionDef)]
                self.assertEqual(len(methods), len(set(methods)), (path, kind.name))
                stored = {node.attr for node in ast.walk(kind) if isinstance(node, ast.Attribute)
                          and isinstance(node.ctx, ast.Store)}
                self.assertEqual(stored & set(methods), set(), (path, kind.name))
                self.assertEqual(stored & BARRED_ATTRIBUTES, set(), (path, kind.name))

    def test_builtin_methods(self):
        own = {node.name for _, tree in trees() for node in ast.walk(tree)
               if isinstance(node, ast.FunctionDef)}
        for path, tree in trees():
            for node in ast.walk(tree):
                if isinstance(node, ast.Call) and isinstance(node.func, ast.Attribute):
                    self.assertIn(node.func.attr, METHODS | own, path)
                    self.assertEqual(node.keywords, [], path)
                if isinstance(node, ast.Call) and isinstance(node.func, ast.Name):
                    self.assertNotIn("format", node.func.id, path)

    def test_handlers(self):
        errors = {node.name for path, tree in trees() if path.stem == "errors"
                  for node in tree.body if isinstance(node, ast.ClassDef)}
        for path, tree in trees():
            for node in ast.walk(tree):
                if isinstance(node, ast.ExceptHandler):
                    self.assertIn(getattr(node.type, "id", None), errors, path)
                if isinstance(node, ast.Raise):
                    self.assertIn(node.exc.func.id, errors, path)

    def test_words(self):
        # Where doctest has run, `_` is one of them.
        names = set(dir(builtins)) - {"_"}
        for path, tree in trees():
            for node in ast.walk(tree):
                self.assertNotIsInstance(node, BARRED, path)
                if isinstance(node, ast.Name) and node.id in names:
                    self.assertIn(node.id, BUILTINS, path)
                    self.assertIsInstance(node.ctx, ast.Load, path)
                if isinstance(node, ast.arg):
                    self.assertNotIn(node.arg, names, path)
                if isinstance(node, ast.Constant):
                    self.assertNotIsInstance(node.value, (float, complex), path)
                if isinstance(node, ast.FunctionDef) and node.name.startswith("__"):
                    self.assertIn(node.name, DUNDERS, path)
                if isinstance(node, (ast.Name, ast.Attribute)):
                    name = node.id if isinstance(node, ast.Name) else node.attr
                    self.assertFalse(name.startswith("__") and name not in DUNDERS, path)


if __name__ == "__main__":
    unittest.main()
