"""What holds for the package as a whole: the last part of point 1, and the examples of README.md."""

import ast
import builtins
import doctest
import pathlib
import unittest

TOP = pathlib.Path(__file__).resolve().parent.parent
SOURCES = sorted((TOP / "homereads").rglob("*.py"))

# These modules of the library know no clock, no random numbers and no files.
ALLOWED_MODULES = {"__future__", "collections", "heapq", "itertools", "math"}
FORBIDDEN_NAMES = {"open", "input", "print", "exec", "eval", "compile", "breakpoint", "__import__", "id", "hash"}


def imported_modules(tree):
    for node in ast.walk(tree):
        if isinstance(node, ast.Import):
            yield from [alias.name for alias in node.names]
        if isinstance(node, ast.ImportFrom):
            yield "." * node.level + (node.module or "")


class PackageTest(unittest.TestCase):
    def test_nothing_from_outside(self):
        self.assertTrue(SOURCES)
        self.assertTrue(all(hasattr(builtins, name) for name in FORBIDDEN_NAMES))
        for source in SOURCES:
            tree = ast.parse(source.read_text(encoding="utf-8"))
            with self.subTest(source=source.name):
                for module in imported_modules(tree):
                    self.assertTrue(module in ALLOWED_MODULES or module.startswith("homereads."), module)
                names = {node.id for node in ast.walk(tree) if isinstance(node, ast.Name)}
                self.assertEqual(names & FORBIDDEN_NAMES, set())

    def test_sizes_and_characters(self):
        for source in SOURCES:
            text = source.read_text(encoding="utf-8")
            with self.subTest(source=source.name):
                lines = text.split("\n")
                self.assertLess(len(lines), 400)
                self.assertEqual([line for line in lines if len(line) > 120], [])
                self.assertEqual([line for line in lines if not all(" " <= each <= "~" for each in line)], [])
                functions = [node for node in ast.walk(ast.parse(text)) if isinstance(node, ast.FunctionDef)]
                self.assertEqual([each.name for each in functions if each.end_lineno - each.lineno > 39], [])

    def test_readme(self):
        failed, tried = doctest.testfile(str(TOP / "README.md"), module_relative=False, encoding="utf-8")
        self.assertGreater(tried, 0)
        self.assertEqual(failed, 0)


if __name__ == "__main__":
    unittest.main()
