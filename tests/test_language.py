"""The rules of the language that can be seen in the code (L1, L2, L4, L6 to L8, L10, L12, L14 to L20, L22 to L28)."""

import ast
import builtins
import pathlib
import re
import unittest

PACKAGE = pathlib.Path(__file__).resolve().parent.parent / "innerlook"
FILES = sorted(path for path in PACKAGE.rglob("*") if path.is_file() and path.parent.name != "__pycache__")
TREES = {path.name: ast.parse(path.read_text(encoding="utf-8")) for path in FILES}
NODES = [(name, node) for name, tree in TREES.items() for node in ast.walk(tree)]

BUILTINS = """len range enumerate zip min max sum abs sorted reversed int str bool bytes list tuple dict set isinstance
ord repr any all divmod pow iter next map getattr hasattr setattr super property staticmethod classmethod Exception
ValueError TypeError KeyError IndexError LookupError ZeroDivisionError ArithmeticError OverflowError RuntimeError
NotImplementedError AttributeError StopIteration NotImplemented""".split()
BARRED_NODES = (ast.AsyncFunctionDef, ast.AsyncFor, ast.AsyncWith, ast.Await, ast.Global, ast.Import, ast.Div)
BARRED_WORDS = """type typing enum Enum IntEnum Generic Protocol ABC namedtuple NamedTuple TypedDict abstractmethod
register mro elements open input law version_info with_traceback add_note""".split()


def bound_names(node):
    """The names that a part of a file gives a meaning."""
    if isinstance(node, ast.Name) and isinstance(node.ctx, ast.Store):
        return [node.id]
    if isinstance(node, ast.arg):
        return [node.arg]
    if isinstance(node, (ast.FunctionDef, ast.ClassDef)):
        return [node.name]
    return []


class Language(unittest.TestCase):

    def test_the_folder_holds_plain_files_alone(self):
        for path in FILES:
            self.assertEqual(path.parent, PACKAGE)
            self.assertTrue(re.fullmatch(r"[a-z0-9_]+\.py", path.name), path.name)

    def test_sizes_and_signs(self):
        for path in FILES:
            text = path.read_text(encoding="utf-8")
            lines = text.split("\n")
            self.assertLessEqual(len(lines) - 1, 399, path.name)
            self.assertLessEqual(max(len(line) for line in lines), 120, path.name)
            self.assertTrue(all(sign == "\n" or " " <= sign <= "~" for sign in text), path.name)
        for name, node in NODES:
            if isinstance(node, ast.FunctionDef):
                self.assertLessEqual(node.end_lineno - node.lineno + 1, 40, (name, node.name))

    def test_imports_name_modules_of_the_package(self):
        for name, node in NODES:
            if isinstance(node, ast.ImportFrom):
                file = (node.module or "").removeprefix("innerlook.") + ".py"
                self.assertIn(file, TREES, name)
                defined = [bound for row in TREES[file].body for part in ast.walk(row)
                           if part is row or isinstance(row, ast.Assign) for bound in bound_names(part)]
                for alias in node.names:
                    self.assertIn(alias.name, defined, name)

    def test_parts_that_are_not_used(self):
        for name, node in NODES:
            self.assertNotIsInstance(node, BARRED_NODES, name)
            if isinstance(node, (ast.FunctionDef, ast.ClassDef)):
                self.assertEqual(node.decorator_list, [], name)
            if isinstance(node, ast.Constant):
                self.assertNotIsInstance(node.value, (float, complex), name)
                self.assertNotIn(chr(37), str(node.value), name)

    def test_is_stands_beside_none_and_truths_alone(self):
        for name, node in NODES:
            if isinstance(node, ast.Compare):
                for operator, right in zip(node.ops, node.comparators):
                    if isinstance(operator, (ast.Is, ast.IsNot)):
                        self.assertIn(ast.unparse(right), ("None", "True", "False"), name)

    def test_builtins_keep_their_meaning_and_no_other_ones_are_used(self):
        for name, node in NODES:
            for bound in bound_names(node):
                self.assertNotIn(bound, vars(builtins), name)
                self.assertNotIn(bound, BARRED_WORDS, name)
            if isinstance(node, ast.Name) and node.id in vars(builtins):
                self.assertIn(node.id, BUILTINS, name)


METHODS = """append clear copy count endswith extend find get index insert isalnum isalpha isdigit islower isspace isupper
items join keys ljust lower lstrip partition pop remove replace reverse rfind rjust rpartition rsplit rstrip setdefault
split splitlines startswith strip update upper values zfill bit_length""".split()
CHANGING = "append clear extend insert pop remove reverse setdefault update sort".split()
AT_ONCE = "zip enumerate reversed range items keys values".split()
TAKING = "list tuple dict sorted sum any all enumerate zip min max".split()
CLASSES = {node.name: node for _, node in NODES if isinstance(node, ast.ClassDef)}
OWN_METHODS = {row.name for node in CLASSES.values() for row in node.body if isinstance(row, ast.FunctionDef)}
PARENTS = {name: {child: node for node in ast.walk(tree) for child in ast.iter_child_nodes(node)}
           for name, tree in TREES.items()}


def called(node):
    """The name by which something is called, or an empty one."""
    if not isinstance(node, ast.Call):
        return ""
    return node.func.id if isinstance(node.func, ast.Name) else getattr(node.func, "attr", "")


def tables(tree):
    """The names of lists and dicts that stand at module level."""
    return [row.targets[0].id for row in tree.body
            if isinstance(row, ast.Assign) and isinstance(row.value, (ast.List, ast.Dict))]


class Usage(unittest.TestCase):

    def test_methods_are_own_ones_or_those_of_the_rule(self):
        for name, node in NODES:
            if isinstance(node, ast.Call) and isinstance(node.func, ast.Attribute):
                self.assertIn(node.func.attr, METHODS + sorted(OWN_METHODS), name)

    def test_attributes_that_are_read_are_given_to_some_object(self):
        given = {node.attr for _, node in NODES if isinstance(node, ast.Attribute) and isinstance(node.ctx, ast.Store)}
        for name, node in NODES:
            if isinstance(node, ast.Attribute) and called(PARENTS[name][node]) != node.attr:
                self.assertIn(node.attr, given, name)
                self.assertFalse(node.attr in ("items", "keys", "values", "pop", "sort", "args", "format"), name)

    def test_no_name_is_a_method_and_an_attribute(self):
        for title, node in CLASSES.items():
            methods = {row.name for row in node.body if isinstance(row, ast.FunctionDef)}
            attributes = {part.attr for part in ast.walk(node) if isinstance(part, ast.Attribute)
                          and isinstance(part.ctx, ast.Store)}
            self.assertEqual(methods & attributes, set(), title)

    def test_no_name_is_a_method_here_and_an_attribute_there(self):
        methods = {row.name for _, node in NODES if isinstance(node, ast.ClassDef) for row in node.body
                   if isinstance(row, ast.FunctionDef)}
        attributes = {node.attr for _, node in NODES if isinstance(node, ast.Attribute)
                      and isinstance(node.ctx, ast.Store)}
        self.assertEqual(methods & attributes, set())

    def test_attributes_are_assigned_through_names(self):
        for name, node in NODES:
            if isinstance(node, ast.Attribute) and isinstance(node.ctx, ast.Store):
                self.assertIsInstance(node.value, ast.Name, (name, node.lineno))

    def test_names(self):
        barred = "_cold _tuplegetter _outside _record _written_out _member_names".split()
        starts = ("_wall", "_pe_", "_dcw_", "_enum_", "_cm_", "_twin_re_", "_lay_", "_law_", "_stub_", "_sre", "__")
        for name, node in NODES:
            for bound in bound_names(node):
                if not (bound.startswith("__") and bound.endswith("__") and isinstance(node, ast.FunctionDef)):
                    self.assertNotIn(re.sub("[0-9_]*$", "", bound), barred, name)
                    self.assertFalse(bound.startswith(starts), (name, bound))

    def test_tables_are_only_read(self):
        every = {table for tree in TREES.values() for table in tables(tree)}
        for name, node in NODES:
            if isinstance(node, ast.Name) and node.id in every and isinstance(node.ctx, ast.Load):
                parent = PARENTS[name][node]
                fits = isinstance(parent, ast.Subscript) and parent.value is node and isinstance(parent.ctx, ast.Load)
                fits = fits or isinstance(parent, ast.Compare) or isinstance(parent, (ast.For, ast.comprehension))
                fits = fits or called(parent) in ("len", "list", "dict", "sorted")
                fits = fits or isinstance(parent, ast.Attribute) and parent.attr in ("get", "items", "keys", "values")
                self.assertTrue(fits, (name, node.id, node.lineno))

    def test_locals_have_no_names_of_classes_and_imports(self):
        for name, tree in TREES.items():
            taken = [row.name for row in tree.body if isinstance(row, ast.ClassDef)]
            taken += [alias.name for row in tree.body if isinstance(row, ast.ImportFrom) for alias in row.names]
            for function in ast.walk(tree):
                if isinstance(function, (ast.FunctionDef, ast.Lambda)):
                    for node in ast.walk(function):
                        if isinstance(node, (ast.Name, ast.arg)):
                            for bound in bound_names(node):
                                self.assertNotIn(bound, taken, (name, node.lineno))

    def test_what_is_iterated_at_once(self):
        for name, node in NODES:
            word = called(node)
            if word in AT_ONCE and not (isinstance(node.func, ast.Attribute) and word in ("reversed", "range")):
                parent = PARENTS[name][node]
                fits = isinstance(parent, (ast.For, ast.comprehension)) and parent.iter is node
                fits = fits or called(parent) in TAKING and parent.args[0] is node
                self.assertTrue(fits, (name, node.lineno))
            self.assertNotIsInstance(node, (ast.GeneratorExp, ast.Yield, ast.YieldFrom, ast.NamedExpr), name)

    def test_sets_stand_where_they_may(self):
        for name, node in NODES:
            if called(node) == "set" or isinstance(node, (ast.Set, ast.SetComp)):
                parent = PARENTS[name][node]
                self.assertTrue(isinstance(parent, ast.Compare) or called(parent) in ("len", "sorted"),
                                (name, node.lineno))

    def test_loops_change_nothing_that_they_go_over(self):
        for name, node in NODES:
            if isinstance(node, ast.For):
                gone_over = {ast.unparse(part) for part in ast.walk(node.iter)
                             if isinstance(part, (ast.Name, ast.Attribute, ast.Subscript))}
                for row in node.body:
                    for part in ast.walk(row):
                        if called(part) in CHANGING and isinstance(part.func, ast.Attribute):
                            self.assertNotIn(ast.unparse(part.func.value), gone_over, (name, part.lineno))

    def test_errors_are_made_where_they_are_raised(self):
        for name, node in NODES:
            if isinstance(node, ast.Raise) and node.exc is not None:
                self.assertIsInstance(node.exc, ast.Call, (name, node.lineno))
                self.assertIn(node.exc.func.id, CLASSES, (name, node.lineno))
            if isinstance(node, ast.ExceptHandler):
                for part in node.type.elts if isinstance(node.type, ast.Tuple) else [node.type]:
                    self.assertIn(part.id, CLASSES, (name, node.lineno))

    def test_builtins_have_no_keywords_but_these(self):
        allowed = {"sorted": ("key", "reverse"), "min": ("key", "default"), "max": ("key", "default")}
        for name, node in NODES:
            if isinstance(node, ast.Call) and isinstance(node.func, ast.Name) and node.func.id in vars(builtins):
                for keyword in node.keywords:
                    self.assertIn(keyword.arg, allowed.get(node.func.id, ()), (name, node.lineno))

    def test_no_two_files_import_from_each_other(self):
        imports = {name: {row.module.removeprefix("innerlook.") + ".py" for row in tree.body
                          if isinstance(row, ast.ImportFrom)} for name, tree in TREES.items()}
        left = dict(imports)
        while left:
            free = [name for name in left if not left[name] & set(left)]
            self.assertTrue(free, sorted(left))
            left = {name: row for name, row in left.items() if name not in free}

    def test_words_that_no_string_holds(self):
        for name, node in NODES:
            if isinstance(node, ast.Constant) and isinstance(node.value, str):
                if not isinstance(PARENTS[name][node], ast.Expr):
                    self.assertFalse(set(re.findall("[A-Za-z_]+", node.value)) & set(BARRED_WORDS[1:14]), name)

    def test_functions_and_names_that_are_used_nowhere(self):
        words = [word for tree in TREES.values() for node in ast.walk(tree) for word in (
            [node.id] if isinstance(node, ast.Name) else [node.attr] if isinstance(node, ast.Attribute) else
            [alias.name for alias in node.names] if isinstance(node, ast.ImportFrom) else [])]
        for name, tree in TREES.items():
            for row in tree.body:
                if isinstance(row, ast.ImportFrom):
                    used = {node.id for node in ast.walk(tree) if isinstance(node, ast.Name)}
                    for alias in row.names:
                        self.assertIn(alias.name, used, (name, "an import"))
            for node in ast.walk(tree):
                if isinstance(node, ast.FunctionDef) and node.name.startswith("_") and node.name[1] != "_":
                    self.assertIn(node.name, words, name)


if __name__ == "__main__":
    unittest.main()
