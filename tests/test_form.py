"""The form of the package's files, as far as it can be seen without running them, and the README's examples."""

import ast
import builtins
import doctest
import pathlib
import unittest

TOP = pathlib.Path(__file__).resolve().parent.parent
FILES = sorted((TOP / "saywhat").glob("*.py"))
# A session is iterated over and has a length, so the products of itertools are not allowed.
LIBRARY = {"math": {"gcd", "lcm", "isqrt", "comb", "perm", "factorial"},
           "heapq": {"heappush", "heappop", "heapify", "heapreplace", "heappushpop"}}
BUILTINS = set("""len range enumerate zip min max sum abs sorted reversed int str bool bytes list tuple dict set
    frozenset isinstance ord repr any all divmod iter property super staticmethod classmethod Exception ValueError
    TypeError KeyError IndexError LookupError ZeroDivisionError NotImplemented""".split())


def trees():
    return [(path, ast.parse(path.read_text())) for path in FILES]


def imports_of(tree):
    return [node for node in ast.walk(tree) if isinstance(node, (ast.Import, ast.ImportFrom))]


class TestForm(unittest.TestCase):
    def test_the_package_is_there(self):
        names = {path.stem for path in FILES}
        self.assertLessEqual({"__init__", "errors", "matters", "tellings", "best", "few", "signs", "honest", "splits",
                              "sessions", "texts"}, names)

    def test_characters_and_sizes(self):
        for path in FILES:
            with self.subTest(path=path.name):
                data = path.read_bytes()
                self.assertLessEqual(set(data), {10, *range(32, 127)})
                lines = data.split(b"\n")
                self.assertLess(len(lines), 400)
                self.assertLessEqual(max(map(len, lines)), 120)

    def test_functions_are_short(self):
        for path, tree in trees():
            for node in ast.walk(tree):
                if isinstance(node, (ast.FunctionDef, ast.Lambda)):
                    with self.subTest(path=path.name, line=node.lineno):
                        self.assertLessEqual(node.end_lineno - node.lineno + 1, 40)

    def test_imports(self):
        for path, tree in trees():
            for node in imports_of(tree):
                with self.subTest(path=path.name, line=node.lineno):
                    self.assertIsInstance(node, ast.ImportFrom)
                    names = {alias.name for alias in node.names}
                    self.assertEqual([alias.asname for alias in node.names if alias.asname], [])
                    if node.module in LIBRARY:
                        self.assertLessEqual(names, LIBRARY[node.module])
                    else:
                        self.defined_there(node.module, names)

    def defined_there(self, module, names):
        package, stem = module.split(".")
        self.assertEqual(package, "saywhat")
        tree = ast.parse((TOP / "saywhat" / f"{stem}.py").read_text())
        defined = {node.name for node in tree.body if isinstance(node, (ast.FunctionDef, ast.ClassDef))}
        assigned = {target.id for node in tree.body if isinstance(node, ast.Assign) for target in node.targets}
        self.assertLessEqual(names, defined | assigned)

    def test_expressions(self):
        for path, tree in trees():
            for node in ast.walk(tree):
                with self.subTest(path=path.name, line=getattr(node, "lineno", 0)):
                    self.assertNotIsInstance(node, (ast.Div, ast.GeneratorExp, ast.Global, ast.AsyncFunctionDef))
                    if isinstance(node, ast.Constant):
                        self.assertNotIsInstance(node.value, (float, complex))
                    # A doctest that ran before leaves its last answer among the builtins, as _.
                    if isinstance(node, ast.Name) and hasattr(builtins, node.id) and node.id != "_":
                        self.assertIn(node.id, BUILTINS)


class TestReadme(unittest.TestCase):
    def test_examples(self):
        failed, tried = doctest.testfile(str(TOP / "README.md"), module_relative=False)
        self.assertEqual(failed, 0)
        self.assertGreater(tried, 5)


if __name__ == "__main__":
    unittest.main()
