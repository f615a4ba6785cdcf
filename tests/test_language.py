"""The rules of the language that can be seen file by file (L1, L2, L4, L6 to L8, L10, L14 to L17, L20, L27)."""

import ast
import builtins
import pathlib
import re
import unittest

PACKAGE = pathlib.Path(__file__).resolve().parent.parent / "innerlook"
FILES = sorted(path for path in PACKAGE.rglob("*") if path.is_file() and path.parent.name != "__pycache__")
TREES = {path.name: ast.parse(path.read_text(encoding="utf-8")) for path in FILES}
NODES = [(name, node) for name, tree in TREES.items() for node in ast.walk(tree)]

BUILTINS = """len range enumerate zip min max sum abs sorted reversed int str bool bytes list tuple dict set isinstance
ord repr any all divmod pow iter next map getattr hasattr setattr super property staticmethod classmethod Exception
ValueError TypeError KeyError IndexError LookupError ZeroDivisionError ArithmeticError OverflowError RuntimeError
NotImplementedError AttributeError StopIteration NotImplemented""".split()
BARRED_NODES = (ast.AsyncFunctionDef, ast.AsyncFor, ast.AsyncWith, ast.Await, ast.Global, ast.Import, ast.Div)
BARRED_WORDS = """type typing enum Enum IntEnum Generic Protocol ABC namedtuple NamedTuple TypedDict abstractmethod
register mro elements open input law version_info with_traceback add_note""".split()


def bound_names(node):
    """The names that a part of a file gives a meaning."""
    if isinstance(node, ast.Name) and isinstance(node.ctx, ast.Store):
        return [node.id]
    if isinstance(node, ast.arg):
        return [node.arg]
    if isinstance(node, (ast.FunctionDef, ast.ClassDef)):
        return [node.name]
    return []


class Language(unittest.TestCase):

    def test_the_folder_holds_plain_files_alone(self):
        for path in FILES:
            self.assertEqual(path.parent, PACKAGE)
            self.assertTrue(re.fullmatch(r"[a-z0-9_]+\.py", path.name), path.name)

    def test_sizes_and_signs(self):
        for path in FILES:
            text = path.read_text(encoding="utf-8")
            lines = text.split("\n")
            self.assertLessEqual(len(lines) - 1, 399, path.name)
            self.assertLessEqual(max(len(line) for line in lines), 120, path.name)
            self.assertTrue(all(sign == "\n" or " " <= sign <= "~" for sign in text), path.name)
        for name, node in NODES:
            if isinstance(node, ast.FunctionDef):
                self.assertLessEqual(node.end_lineno - node.lineno + 1, 40, (name, node.name))

    def test_imports_name_modules_of_the_package(self):
        for name, node in NODES:
            if isinstance(node, ast.ImportFrom):
                file = (node.module or "").removeprefix("innerlook.") + ".py"
                self.assertIn(file, TREES, name)
                defined = [bound for row in TREES[file].body for part in ast.walk(row)
                           if part is row or isinstance(row, ast.Assign) for bound in bound_names(part)]
                for alias in node.names:
                    self.assertIn(alias.name, defined, name)

    def test_parts_that_are_not_used(self):
        for name, node in NODES:
            self.assertNotIsInstance(node, BARRED_NODES, name)
            if isinstance(node, (ast.FunctionDef, ast.ClassDef)):
                self.assertEqual(node.decorator_list, [], name)
            if isinstance(node, ast.Constant):
                self.assertNotIsInstance(node.value, (float, complex), name)
                self.assertNotIn(chr(37), str(node.value), name)

    def test_is_stands_beside_none_and_truths_alone(self):
        for name, node in NODES:
            if isinstance(node, ast.Compare):
                for operator, right in zip(node.ops, node.comparators):
                    if isinstance(operator, (ast.Is, ast.IsNot)):
                        self.assertIn(ast.unparse(right), ("None", "True", "False"), name)

    def test_builtins_keep_their_meaning_and_no_other_ones_are_used(self):
        for name, node in NODES:
            for bound in bound_names(node):
                self.assertNotIn(bound, vars(builtins), name)
                self.assertNotIn(bound, BARRED_WORDS, name)
            if isinstance(node, ast.Name) and node.id in vars(builtins):
                self.assertIn(node.id, BUILTINS, name)


if __name__ == "__main__":
    unittest.main()
