"""Rules of ../shared/LANGUAGE.md that can be told from the text of the package by itself."""

import ast
import builtins
import unittest
from pathlib import Path

PACKAGE = Path(__file__).resolve().parent.parent / "middlegauges"

# L8 (without print, which only __main__.py may use, and chr, which L27 takes back).
BUILTINS = tuple("""
    len range enumerate zip min max sum abs sorted reversed int str bool list tuple dict set frozenset isinstance ord
    repr any all divmod pow getattr hasattr setattr iter next map type super property staticmethod classmethod object
    Exception ValueError TypeError KeyError IndexError LookupError ZeroDivisionError ArithmeticError OverflowError
    RuntimeError NotImplementedError AttributeError StopIteration NotImplemented
""".split())

LIBRARY = ("__future__", "heapq", "math", "itertools", "collections")

# L5.
DOUBLE_UNDERSCORES = tuple(f"__{word}__" for word in """
    init eq repr str len enter exit call iter lt le gt ge ne add sub mul floordiv mod and or xor neg pos bool contains
    getitem setitem
""".split())

DECORATORS = ("property", "staticmethod", "classmethod")

# What counts as a modification (L25, L26).
CHANGING = ("append", "clear", "extend", "insert", "pop", "remove", "reverse", "setdefault", "sort", "update", "add",
            "discard")

# Objects of these change, but no operator and no property holds or makes one.
CHANGEABLE = ("Watch", "StrictWatch", "Console", "Reader")


def sources():
    """The text of each file of the package by its name."""
    return {path.name: path.read_text(encoding="utf-8") for path in sorted(PACKAGE.glob("*.py"))}


def parts(kind):
    """The parts of all files that are of a kind, as pairs (name of the file, part)."""
    return [(name, part) for name, text in sources().items() for part in ast.walk(ast.parse(text))
            if isinstance(part, kind)]


def package_imports(text):
    return [part.module.rpartition(".")[2] + ".py" for part in ast.walk(ast.parse(text))
            if isinstance(part, ast.ImportFrom) and part.module.startswith("middlegauges")]


def is_new(value):
    """Whether an expression is a list or a dict that nothing else has (L5)."""
    if isinstance(value, ast.Call):
        return isinstance(value.func, ast.Name) and value.func.id in ("list", "dict", "sorted")
    return isinstance(value, (ast.List, ast.Dict, ast.ListComp, ast.DictComp))


def changed_names(function):
    """The names of what a function changes, the first one of each chain of attributes and items."""
    found = []
    for part in ast.walk(function):
        if isinstance(part, ast.Call) and isinstance(part.func, ast.Attribute) and part.func.attr in CHANGING:
            found.append(part.func.value)
        if isinstance(part, (ast.Attribute, ast.Subscript)) and isinstance(part.ctx, (ast.Store, ast.Del)):
            found.append(part.value)
    for at, part in enumerate(found):
        while isinstance(part, (ast.Attribute, ast.Subscript)):
            part = part.value
        found[at] = ast.unparse(part)
    return found


def values_of(function, name):
    """All that a function assigns to a name."""
    return [part.value for part in ast.walk(function) if isinstance(part, ast.Assign)
            and name in [ast.unparse(target) for target in part.targets]]


class Language(unittest.TestCase):
    def test_the_folder_holds_python_files_alone(self):
        found = [path.name for path in PACKAGE.iterdir() if path.name != "__pycache__"]
        self.assertEqual(sorted(found), sorted(sources()))
        self.assertIn("__init__.py", found)
        for name in found:
            self.assertEqual(name, name.lower())
            self.assertFalse(name.startswith(("test", "law_")), name)

    def test_signs_and_sizes(self):
        for name, text in sources().items():
            self.assertTrue(all(sign == "\n" or " " <= sign <= "~" for sign in text), name)
            lines = text.split("\n")
            self.assertLess(len(lines), 401, name)
            self.assertLessEqual(max(map(len, lines)), 120, name)
        for name, part in parts(ast.FunctionDef):
            self.assertLessEqual(part.end_lineno - part.lineno + 1, 40, (name, part.name))

    def test_imports_are_from_the_package_by_full_names(self):
        for name, part in parts((ast.Import, ast.ImportFrom)):
            self.assertIsInstance(part, ast.ImportFrom, name)
            self.assertEqual(part.level, 0, name)
            self.assertIn(part.module.split(".")[0], ("middlegauges", *LIBRARY), name)
            self.assertTrue(all(item.name != "*" and item.asname is None for item in part.names), name)

    def test_no_files_import_each_other(self):
        ahead = {name: package_imports(text) for name, text in sources().items()}
        while ahead:
            free = [name for name, needed in ahead.items() if not any(one in ahead for one in needed)]
            self.assertTrue(free, f"in a circle: {sorted(ahead)}")
            ahead = {name: needed for name, needed in ahead.items() if name not in free}

    def test_builtins_are_those_of_the_subset_and_keep_their_meaning(self):
        for name, part in parts(ast.Name):
            if hasattr(builtins, part.id):
                self.assertIn(part.id, BUILTINS, name)
                self.assertIsInstance(part.ctx, ast.Load, (name, part.id))
        for name, part in parts((ast.arg, ast.FunctionDef, ast.ClassDef)):
            bound = part.arg if isinstance(part, ast.arg) else part.name
            self.assertFalse(hasattr(builtins, bound) and not bound.startswith("__"), (name, bound))

    def test_what_the_subset_leaves_out(self):
        self.assertEqual(parts((ast.AsyncFunctionDef, ast.Await, ast.Global, ast.Div)), [])
        for name, part in parts(ast.Constant):
            self.assertNotIsInstance(part.value, (float, complex), name)
        for name, part in parts(ast.Compare):
            for sign, side in zip(part.ops, part.comparators):
                if isinstance(sign, (ast.Is, ast.IsNot)):
                    self.assertIsInstance(side, (ast.Constant, ast.Name), name)

    def test_classes(self):
        for name, part in parts(ast.ClassDef):
            methods = {item.name: item for item in part.body if isinstance(item, ast.FunctionDef)}
            for method, item in methods.items():
                if method.startswith("__"):
                    self.assertIn(method, DOUBLE_UNDERSCORES, (name, part.name))
                self.assertTrue(all(ast.unparse(one) in DECORATORS for one in item.decorator_list), (name, method))
            if "__getitem__" in methods:
                self.assertIsInstance(methods["__iter__"].body[0], ast.Raise)
            self.assertEqual(part.decorator_list, [])
            stored = [item.attr for item in ast.walk(part)
                      if isinstance(item, ast.Attribute) and isinstance(item.ctx, ast.Store)]
            self.assertFalse(any(attribute in methods for attribute in stored), (name, part.name))

    def test_behind_a_star_of_a_call_stands_a_name(self):
        for name, part in parts(ast.Call):
            stars = [item.value for item in part.args if isinstance(item, ast.Starred)]
            self.assertTrue(len(stars) < 2 and all(isinstance(star, (ast.Name, ast.Attribute)) for star in stars), name)
            self.assertFalse(any(keyword.arg is None for keyword in part.keywords), name)

    def test_only_own_errors_are_caught(self):
        for name, part in parts(ast.ExceptHandler):
            self.assertIn(f"class {part.type.id}(GaugeError)", sources()["errors.py"], name)

    def test_sorted_takes_plain_numbers_and_nothing_else_compares_all(self):
        for name, part in parts(ast.Call):
            if isinstance(part.func, ast.Name):
                self.assertNotIn(part.func.id, ("min", "max", "reversed", "map", "iter", "next"), name)
                if part.func.id == "sorted":
                    self.assertIn("[int(", ast.unparse(part), name)
        self.assertEqual(parts((ast.GeneratorExp, ast.Lambda, ast.Yield, ast.YieldFrom)), [])

    def test_what_operators_may_run_changes_only_what_it_created(self):
        for name, text in sources().items():
            tree = ast.parse(text)
            changeable = [item for part in ast.walk(tree) if isinstance(part, ast.ClassDef) and part.name in CHANGEABLE
                          for item in part.body]
            for function in ast.walk(tree):
                if isinstance(function, ast.FunctionDef) and function not in changeable and function.name != "__init__":
                    for changed in changed_names(function):
                        values = values_of(function, changed)
                        self.assertTrue(values and all(map(is_new, values)), (name, function.name, changed))


if __name__ == "__main__":
    unittest.main()
