"""Point 1: nothing uses a clock, chance or files; so the package draws on its own modules alone."""

import ast
import pathlib
import unittest

import boardkin

FOLDER = pathlib.Path(boardkin.__file__).parent
REACHING_OUT = ("open", "input", "print", "eval", "exec", "compile", "__import__", "getattr", "globals")


class Package(unittest.TestCase):
    def trees(self):
        files = sorted(FOLDER.rglob("*.py"))
        self.assertIn(FOLDER / "deeds.py", files)
        return [(file.name, ast.parse(file.read_text(encoding="utf-8"))) for file in files]

    def test_imports_are_the_packages_own(self):
        for name, tree in self.trees():
            for node in ast.walk(tree):
                with self.subTest(file=name):
                    self.assertNotIsInstance(node, ast.Import)
                    if isinstance(node, ast.ImportFrom):
                        self.assertEqual(node.level, 0)
                        self.assertTrue(node.module.startswith("boardkin."))

    def test_no_name_reaches_out(self):
        for name, tree in self.trees():
            names = [node.id for node in ast.walk(tree) if isinstance(node, ast.Name)]
            for word in REACHING_OUT:
                with self.subTest(file=name, word=word):
                    self.assertNotIn(word, names)


if __name__ == "__main__":
    unittest.main()
