"""The bounds of ../shared/LANGUAGE.md that can be counted or looked up in a list."""

import ast
import builtins
import pathlib
import unittest

PACKAGE = pathlib.Path(__file__).resolve().parent.parent / "armedexits"

FILES = sorted(PACKAGE.glob("*.py"))

TREES = {path.stem: ast.parse(path.read_text()) for path in FILES}

# L2: what may be imported besides the names of the package.
LIBRARY = {
    "heapq": {"heappush", "heappop", "heapify", "heapreplace", "heappushpop"},
    "math": {"gcd", "lcm", "isqrt", "comb", "perm", "factorial"},
    "itertools": {"product", "combinations", "permutations"},
}

# L8: the builtins that may be used.
BUILTINS = set("""
    len range enumerate zip min max sum abs sorted reversed int str bool bytes list tuple dict set frozenset isinstance
    ord repr any all divmod iter next map property super
    Exception ValueError TypeError KeyError IndexError LookupError ZeroDivisionError ArithmeticError OverflowError
    RuntimeError NotImplementedError AttributeError StopIteration NotImplemented
""".split())

# L5: the double-underscore methods.
DOUBLE = set("""
    __init__ __eq__ __repr__ __str__ __len__ __enter__ __exit__ __call__ __iter__ __lt__ __le__ __gt__ __ge__ __ne__
    __bool__ __contains__ __getitem__ __setitem__
""".split())

# L5 and L26: the names that builtin values have.
TAKEN = {name for kind in (str, int, list, dict, set, frozenset, tuple, bytes) for name in dir(kind)} - DOUBLE

# L17: words that are names of nothing.
BARRED = set("""
    register mro elements open input law version_info with_traceback add_note attrgetter breakpoint builtins compile
    copyright credits delattr dir eval exec exit gc getattr globals hasattr help id importlib license locals
    methodcaller os quit setattr type vars sys
""".split())


def nodes(kind):
    """Each node of the kind, with the name of its file."""
    return [(stem, node) for stem, tree in TREES.items() for node in ast.walk(tree) if isinstance(node, kind)]


def defined_in(tree):
    """The names that the top level of a file defines."""
    names = set()
    for node in tree.body:
        if isinstance(node, (ast.FunctionDef, ast.ClassDef)):
            names.add(node.name)
        if isinstance(node, ast.Assign):
            names |= {target.id for target in node.targets}
    return names


class Files(unittest.TestCase):
    def test_the_folder_contains_python_files_only(self):
        found = sorted(path for path in PACKAGE.iterdir() if path.name != "__pycache__")
        self.assertEqual(found, FILES)
        self.assertIn(PACKAGE / "__init__.py", FILES)

    def test_signs_and_sizes(self):
        for path in FILES:
            with self.subTest(path=path.name):
                text = path.read_bytes().decode("ascii")
                lines = text.split("\n")
                self.assertTrue(all(sign == "\n" or " " <= sign <= "~" for sign in text))
                self.assertLessEqual(len(lines) - 1, 399)
                self.assertLessEqual(max(len(line) for line in lines), 120)

    def test_functions_are_short(self):
        for stem, node in nodes(ast.FunctionDef):
            with self.subTest(file=stem, name=node.name):
                self.assertLessEqual(node.end_lineno - node.lineno + 1, 40)

    def test_imports(self):
        needed = {stem: set() for stem in TREES}
        self.assertEqual(nodes(ast.Import), [])
        for stem, node in nodes(ast.ImportFrom):
            names = {alias.name for alias in node.names}
            self.assertEqual({alias.asname for alias in node.names}, {None})
            with self.subTest(file=stem, module=node.module):
                if node.module in LIBRARY:
                    self.assertLessEqual(names, LIBRARY[node.module])
                else:
                    package, module = node.module.split(".")
                    self.assertEqual(package, "armedexits")
                    self.assertLessEqual(names, defined_in(TREES[module]))
                    needed[stem].add(module)
        while needed:
            free = [stem for stem, modules in needed.items() if not modules & set(needed)]
            self.assertTrue(free, "files import each other")
            for stem in free:
                del needed[stem]


class Names(unittest.TestCase):
    def test_builtins(self):
        for stem, node in nodes(ast.Name):
            if isinstance(node.ctx, ast.Load) and node.id in vars(builtins):
                with self.subTest(file=stem, line=node.lineno):
                    self.assertIn(node.id, BUILTINS)

    def test_nothing_of_the_package_has_the_name_of_a_builtin_or_a_barred_one(self):
        names = [(stem, node.arg) for stem, node in nodes(ast.arg)]
        names += [(stem, node.id) for stem, node in nodes(ast.Name) if isinstance(node.ctx, ast.Store)]
        names += [(stem, node.name) for stem, node in nodes((ast.FunctionDef, ast.ClassDef))]
        for stem, name in names:
            with self.subTest(file=stem, name=name):
                self.assertNotIn(name, (set(vars(builtins)) | BARRED) - DOUBLE)

    def test_methods_and_attributes(self):
        for stem, node in nodes(ast.ClassDef):
            methods = {part.name for part in node.body if isinstance(part, ast.FunctionDef)}
            parts = [part for part in ast.walk(node) if isinstance(part, ast.Attribute)]
            stored = {part.attr for part in parts if isinstance(part.ctx, ast.Store)}
            with self.subTest(file=stem, name=node.name):
                self.assertFalse((methods | stored) & TAKEN)
                self.assertFalse(methods & stored)
                self.assertLessEqual({name for name in methods if name.startswith("__")}, DOUBLE)

    def test_locals_hide_nothing_of_their_file(self):
        for stem, tree in TREES.items():
            taken = {node.name for node in tree.body if isinstance(node, ast.ClassDef)}
            taken |= {alias.name for node in tree.body if isinstance(node, ast.ImportFrom) for alias in node.names}
            for node in ast.walk(tree):
                if isinstance(node, ast.Name) and isinstance(node.ctx, ast.Store):
                    self.assertNotIn(node.id, taken, stem)
                if isinstance(node, ast.arg):
                    self.assertNotIn(node.arg, taken, stem)

    def test_constants(self):
        for stem, node in nodes(ast.Constant):
            with self.subTest(file=stem, line=node.lineno):
                self.assertNotIsInstance(node.value, (float, complex))
                if isinstance(node.value, str):
                    self.assertNotIn(chr(37), node.value)


if __name__ == "__main__":
    unittest.main()
