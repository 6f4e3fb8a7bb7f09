"""Rules of LANGUAGE.md that a look at the files can tell: sizes, imports, builtins, methods, statements."""

import ast
import builtins
import pathlib
import re
import unittest

PACKAGE = pathlib.Path(__file__).resolve().parent.parent / "tightranges"
FILES = sorted(path for path in PACKAGE.rglob("*") if "__pycache__" not in path.parts)
BUILTINS = set(
    "len range enumerate zip min max sum abs sorted reversed int str bool bytes list tuple dict set frozenset"
    " isinstance ord repr any all divmod pow map iter next type getattr hasattr setattr"
    " property classmethod staticmethod super NotImplemented"
    " Exception ValueError TypeError KeyError IndexError LookupError ZeroDivisionError ArithmeticError"
    " OverflowError RuntimeError NotImplementedError AttributeError StopIteration".split()
)
VALUE_METHODS = set(
    "append clear copy count endswith extend find get index insert isalnum isalpha isdigit islower isspace isupper"
    " items join keys ljust lower lstrip partition pop remove replace reverse rfind rjust rpartition rsplit rstrip"
    " setdefault split splitlines startswith strip update upper values zfill bit_length sort add discard"
    " title capitalize swapcase casefold center expandtabs removeprefix removesuffix rindex isascii isdecimal"
    " isnumeric istitle isidentifier isprintable translate maketrans format encode decode hex from_bytes"
    " appendleft popleft extendleft rotate".split()
)
LIBRARY = {"heapq", "math", "itertools", "collections"}
NOT_THERE = (
    ast.Import, ast.AsyncFunctionDef, ast.AsyncFor, ast.AsyncWith, ast.Await, ast.Div, ast.TryStar,
)


def trees():
    return [(path, ast.parse(path.read_text("ascii"))) for path in FILES if path.suffix == ".py"]


def nodes(*kinds):
    return [(path, node) for path, tree in trees() for node in ast.walk(tree) if isinstance(node, kinds)]


def names_of(node):
    """The names that a statement at module level defines."""
    if isinstance(node, ast.Assign):
        return [target.id for target in node.targets]
    return [node.name] if isinstance(node, (ast.FunctionDef, ast.ClassDef)) else []


class Language(unittest.TestCase):
    def test_files(self):
        self.assertIn(PACKAGE / "__init__.py", FILES)
        for path in FILES:
            self.assertTrue(path.is_dir() or re.fullmatch(r"[a-z0-9_]+\.py", path.name), path)

    def test_sizes_and_signs(self):
        for path in FILES:
            text = path.read_bytes().decode("ascii")
            self.assertTrue(all(sign == "\n" or " " <= sign <= "~" for sign in text), path)
            self.assertLessEqual(len(text.splitlines()), 399, path)
            self.assertLessEqual(max(len(line) for line in text.splitlines()), 120, path)
        for path, node in nodes(ast.FunctionDef):
            self.assertLessEqual(node.end_lineno - node.lineno + 1, 40, (path, node.name))

    def test_imports(self):
        for path, node in nodes(ast.ImportFrom):
            self.assertEqual(node.level, 0, path)
            self.assertTrue(node.module.startswith("tightranges.") or node.module in LIBRARY, (path, node.module))
            self.assertTrue(all(one.name != "*" and one.asname is None for one in node.names), path)

    def test_imports_name_the_file_that_defines(self):
        defined = {path.stem: {name for node in tree.body for name in names_of(node)} for path, tree in trees()}
        for path, node in nodes(ast.ImportFrom):
            if node.module.startswith("tightranges."):
                for one in node.names:
                    self.assertIn(one.name, defined[node.module.partition(".")[2]], path)

    def test_nodes_that_are_not_there(self):
        for path, node in nodes(*NOT_THERE):
            self.fail((path, node.lineno, node))
        for path, node in nodes(ast.Constant):
            self.assertNotIsInstance(node.value, (float, complex), path)

    def test_builtins(self):
        for path, node in nodes(ast.Name):
            if node.id in vars(builtins):
                self.assertIn(node.id, BUILTINS, (path, node.lineno))
                self.assertIsInstance(node.ctx, ast.Load, (path, node.lineno))

    def test_no_name_of_a_builtin_has_another_meaning(self):
        for path, node in nodes(ast.FunctionDef, ast.ClassDef, ast.arg):
            name = node.arg if isinstance(node, ast.arg) else node.name
            self.assertNotIn(name, vars(builtins), (path, node.lineno))

    def test_methods(self):
        own = {node.name for _, node in nodes(ast.FunctionDef)}
        for path, node in nodes(ast.Call):
            if isinstance(node.func, ast.Attribute):
                self.assertIn(node.func.attr, VALUE_METHODS | own, (path, node.lineno))

    def test_no_generator_expressions_beside_an_own_equality(self):
        for path, node in nodes(ast.Call):
            if isinstance(node.func, ast.Name) and node.func.id in ("any", "all", "min", "max", "sum", "sorted"):
                self.assertFalse([one for one in node.args if isinstance(one, ast.GeneratorExp)], (path, node.lineno))

    def test_module_level(self):
        for path, tree in trees():
            self.assertIsNotNone(ast.get_docstring(tree), path)
            for node in tree.body[1:]:
                self.assertIsInstance(node, (ast.ImportFrom, ast.FunctionDef, ast.ClassDef, ast.Assign), path)


if __name__ == "__main__":
    unittest.main()
