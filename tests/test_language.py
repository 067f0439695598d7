"""The bounds of ../shared/LANGUAGE.md that can be counted: L1, L10 and L14."""

import ast
import pathlib
import unittest

PACKAGE = pathlib.Path(__file__).resolve().parent.parent / "armedexits"

FILES = sorted(PACKAGE.glob("*.py"))


class Files(unittest.TestCase):
    def test_the_folder_contains_python_files_only(self):
        found = sorted(path for path in PACKAGE.iterdir() if path.name != "__pycache__")
        self.assertEqual(found, FILES)
        self.assertIn(PACKAGE / "__init__.py", FILES)

    def test_signs_and_sizes(self):
        for path in FILES:
            with self.subTest(path=path.name):
                text = path.read_bytes().decode("ascii")
                lines = text.split("\n")
                self.assertTrue(all(sign == "\n" or " " <= sign <= "~" for sign in text))
                self.assertLessEqual(len(lines) - 1, 399)
                self.assertLessEqual(max(len(line) for line in lines), 120)

    def test_functions_are_short(self):
        for path in FILES:
            for node in ast.walk(ast.parse(path.read_text())):
                if isinstance(node, ast.FunctionDef):
                    with self.subTest(path=path.name, name=node.name):
                        self.assertLessEqual(node.end_lineno - node.lineno + 1, 40)


if __name__ == "__main__":
    unittest.main()
