"""Rules of ../shared/LANGUAGE.md that can be told from the text of the package by itself."""

import ast
import builtins
import unittest
from pathlib import Path

PACKAGE = Path(__file__).resolve().parent.parent / "middlegauges"

# L8 (without print, which only __main__.py may use, and chr, which L27 takes back).
BUILTINS = tuple("""
    len range enumerate zip min max sum abs sorted reversed int str bool list tuple dict set frozenset isinstance ord
    repr any all divmod pow getattr hasattr setattr iter next map type super property staticmethod classmethod object
    Exception ValueError TypeError KeyError IndexError LookupError ZeroDivisionError ArithmeticError OverflowError
    RuntimeError NotImplementedError AttributeError StopIteration NotImplemented
""".split())

LIBRARY = ("__future__", "heapq", "math", "itertools", "collections")


def sources():
    """The text of each file of the package by its name."""
    return {path.name: path.read_text(encoding="utf-8") for path in sorted(PACKAGE.glob("*.py"))}


def parts(kind):
    """The parts of all files that are of a kind, as pairs (name of the file, part)."""
    return [(name, part) for name, text in sources().items() for part in ast.walk(ast.parse(text))
            if isinstance(part, kind)]


def package_imports(text):
    return [part.module.rpartition(".")[2] + ".py" for part in ast.walk(ast.parse(text))
            if isinstance(part, ast.ImportFrom) and part.module.startswith("middlegauges")]


class Language(unittest.TestCase):
    def test_the_folder_holds_python_files_alone(self):
        found = [path.name for path in PACKAGE.iterdir() if path.name != "__pycache__"]
        self.assertEqual(sorted(found), sorted(sources()))
        self.assertIn("__init__.py", found)
        for name in found:
            self.assertEqual(name, name.lower())
            self.assertFalse(name.startswith(("test", "law_")), name)

    def test_signs_and_sizes(self):
        for name, text in sources().items():
            self.assertTrue(all(sign == "\n" or " " <= sign <= "~" for sign in text), name)
            lines = text.split("\n")
            self.assertLess(len(lines), 401, name)
            self.assertLessEqual(max(map(len, lines)), 120, name)
        for name, part in parts(ast.FunctionDef):
            self.assertLessEqual(part.end_lineno - part.lineno + 1, 40, (name, part.name))

    def test_imports_are_from_the_package_by_full_names(self):
        for name, part in parts((ast.Import, ast.ImportFrom)):
            self.assertIsInstance(part, ast.ImportFrom, name)
            self.assertEqual(part.level, 0, name)
            self.assertIn(part.module.split(".")[0], ("middlegauges", *LIBRARY), name)
            self.assertTrue(all(item.name != "*" and item.asname is None for item in part.names), name)

    def test_no_files_import_each_other(self):
        ahead = {name: package_imports(text) for name, text in sources().items()}
        while ahead:
            free = [name for name, needed in ahead.items() if not any(one in ahead for one in needed)]
            self.assertTrue(free, f"in a circle: {sorted(ahead)}")
            ahead = {name: needed for name, needed in ahead.items() if name not in free}

    def test_builtins_are_those_of_the_subset_and_keep_their_meaning(self):
        for name, part in parts(ast.Name):
            if hasattr(builtins, part.id):
                self.assertIn(part.id, BUILTINS, name)
                self.assertIsInstance(part.ctx, ast.Load, (name, part.id))
        for name, part in parts((ast.arg, ast.FunctionDef, ast.ClassDef)):
            bound = part.arg if isinstance(part, ast.arg) else part.name
            self.assertFalse(hasattr(builtins, bound) and not bound.startswith("__"), (name, bound))

    def test_what_the_subset_leaves_out(self):
        self.assertEqual(parts((ast.AsyncFunctionDef, ast.Await, ast.Global, ast.Div)), [])
        for name, part in parts(ast.Constant):
            self.assertNotIsInstance(part.value, (float, complex), name)
        for name, part in parts(ast.Compare):
            for sign, side in zip(part.ops, part.comparators):
                if isinstance(sign, (ast.Is, ast.IsNot)):
                    self.assertIsInstance(side, (ast.Constant, ast.Name), name)


if __name__ == "__main__":
    unittest.main()
