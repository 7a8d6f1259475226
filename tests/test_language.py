"""Rules of the language that a program can check by itself; the others are read by people."""

import ast
import builtins
import pathlib
import re
import unittest

FOLDER = pathlib.Path(__file__).resolve().parent.parent / "swingposts"
FILES = sorted(FOLDER.glob("*.py"))

BUILTINS = set(
    "len range enumerate zip min max sum abs sorted reversed int str bool bytes list tuple dict set frozenset isinstance"
    " ord repr any all divmod pow Exception ValueError TypeError KeyError IndexError LookupError ZeroDivisionError"
    " ArithmeticError OverflowError RuntimeError NotImplementedError AttributeError StopIteration NotImplemented"
    " iter next map super property staticmethod classmethod type getattr hasattr setattr".split()
)
BARRED = set(
    "register mro elements open input law version_info with_traceback add_note attrgetter breakpoint builtins compile"
    " copyright credits delattr dir eval exec exit gc globals help id importlib license locals methodcaller os quit"
    " vars sys".split()
)
DOUBLE = {"__init__", "__len__"}
LIBRARY = {"heapq", "math", "itertools", "collections"}
ANYWHERE = (ast.Import, ast.AsyncFunctionDef, ast.Await, ast.Div)


def functions_in(tree):
    return [node for node in ast.walk(tree) if isinstance(node, ast.FunctionDef)]


def bound_names(tree):
    """The names that the file gives a meaning to: classes, functions, parameters and variables."""
    names = {node.id for node in ast.walk(tree) if isinstance(node, ast.Name) and not isinstance(node.ctx, ast.Load)}
    names |= {node.name for node in ast.walk(tree) if isinstance(node, (ast.FunctionDef, ast.ClassDef))}
    return names | {node.arg for node in ast.walk(tree) if isinstance(node, ast.arg)}


def imports_in(tree):
    return [node for node in tree.body if isinstance(node, ast.ImportFrom)]


class Language(unittest.TestCase):

    def each_file(self):
        self.assertTrue(FILES)
        for file in FILES:
            text = file.read_text(encoding="utf-8")
            yield file, text, ast.parse(text)

    def test_the_folder_holds_python_files_only(self):
        self.assertIn(FOLDER / "__init__.py", FILES)
        for entry in FOLDER.iterdir():
            if entry.name != "__pycache__":
                self.assertRegex(entry.name, r"^[a-z0-9_]+\.py$")

    def test_characters_and_size(self):
        for file, text, tree in self.each_file():
            self.assertRegex(text, r"\A[ -~\n]*\Z", file)
            self.assertLessEqual(len(text.splitlines()), 399, file)
            self.assertLessEqual(max(map(len, text.splitlines())), 120, file)
            for function in functions_in(tree):
                self.assertLessEqual(function.end_lineno - function.lineno + 1, 40, function.name)

    def test_module_level(self):
        for file, text, tree in self.each_file():
            for node in tree.body:
                docstring = isinstance(node, ast.Expr) and isinstance(node.value, ast.Constant)
                kinds = (ast.ImportFrom, ast.FunctionDef, ast.ClassDef, ast.Assign)
                self.assertTrue(docstring or isinstance(node, kinds), (file, node.lineno))

    def test_imports_name_the_file_that_defines_the_name(self):
        defined = {}
        for file, text, tree in self.each_file():
            kinds = (ast.FunctionDef, ast.ClassDef)
            defined[f"swingposts.{file.stem}"] = {node.name for node in tree.body if isinstance(node, kinds)}
            for node in tree.body:
                if isinstance(node, ast.Assign):
                    defined[f"swingposts.{file.stem}"] |= {target.id for target in node.targets}
        for file, text, tree in self.each_file():
            for node in imports_in(tree):
                self.assertEqual(node.level, 0, file)
                if node.module not in LIBRARY:
                    for alias in node.names:
                        self.assertIn(alias.name, defined[node.module], file)
                        self.assertIsNone(alias.asname)

    def test_no_two_files_import_from_each_other(self):
        needs = {}
        for file, text, tree in self.each_file():
            needs[f"swingposts.{file.stem}"] = {node.module for node in imports_in(tree)} - LIBRARY
        while needs:
            free = [name for name in needs if not needs[name] & set(needs)]
            self.assertTrue(free, needs)
            for name in free:
                del needs[name]

    def test_names(self):
        for file, text, tree in self.each_file():
            imported = {alias.name for node in imports_in(tree) for alias in node.names}
            bound = bound_names(tree)
            # The examples leave their last value among the builtins, under the name that nobody reads.
            self.assertEqual(bound & (set(dir(builtins)) - {"__doc__", "_"}), set(), file)
            self.assertEqual(bound & imported, set(), file)
            read = {node.id for node in ast.walk(tree) if isinstance(node, ast.Name) and isinstance(node.ctx, ast.Load)}
            self.assertLessEqual(read & set(dir(builtins)), BUILTINS, file)
            self.assertNotIn("_", read, file)
            self.assertEqual((bound | read) & BARRED, set(), file)
            self.assertLessEqual(imported, read, file)

    def test_library_names_are_only_called(self):
        for file, text, tree in self.each_file():
            borrowed = {alias.name for node in imports_in(tree) if node.module in LIBRARY for alias in node.names}
            calls = [node for node in ast.walk(tree) if isinstance(node, ast.Call)]
            called = {id(call.func) for call in calls if not call.keywords}
            for node in ast.walk(tree):
                if isinstance(node, ast.Name) and node.id in borrowed:
                    self.assertIn(id(node), called, (file, node.lineno))

    def test_generators_are_iterated_where_they_are_called(self):
        names = {function.name for file, text, tree in self.each_file() for function in functions_in(tree)
                 if any(isinstance(node, (ast.Yield, ast.YieldFrom)) for node in ast.walk(function))}
        self.assertIn("path", names)
        for file, text, tree in self.each_file():
            heads = {id(node.iter.func) for node in ast.walk(tree)
                     if isinstance(node, ast.For) and isinstance(node.iter, ast.Call)}
            for node in ast.walk(tree):
                if isinstance(node, ast.Name) and node.id in names:
                    self.assertIn(id(node), heads, (file, node.lineno))

    def test_classes(self):
        for file, text, tree in self.each_file():
            for node in ast.walk(tree):
                if isinstance(node, ast.ClassDef):
                    names = [part.name for part in node.body if isinstance(part, ast.FunctionDef)]
                    self.assertEqual(len(names), len(set(names)), node.name)
                    self.assertLessEqual({name for name in names if name.startswith("__")}, DOUBLE)
                if isinstance(node, ast.FunctionDef):
                    decorators = [ast.unparse(decorator) for decorator in node.decorator_list]
                    self.assertIn(decorators, ([], ["property"], ["classmethod"], ["staticmethod"]), node.name)

    def test_super_is_only_used_to_call_a_method_of_the_same_name(self):
        for file, text, tree in self.each_file():
            found = 0
            for function in functions_in(tree):
                for node in ast.walk(function):
                    if isinstance(node, ast.Call) and ast.unparse(node.func) == f"super().{function.name}":
                        self.assertFalse(function.name.startswith("__"), file)
                        found += 1
            self.assertEqual(text.count("super"), found, file)

    def test_no_name_is_a_method_and_an_attribute(self):
        methods, attributes = set(), set()
        for file, text, tree in self.each_file():
            for kind in [node for node in tree.body if isinstance(node, ast.ClassDef)]:
                methods |= {node.name for node in kind.body if isinstance(node, ast.FunctionDef)}
            attributes |= {node.attr for node in ast.walk(tree)
                           if isinstance(node, ast.Attribute) and isinstance(node.ctx, ast.Store)}
        self.assertEqual(methods & attributes, set())

    def test_strings_and_numbers(self):
        for file, text, tree in self.each_file():
            for node in ast.walk(tree):
                if isinstance(node, ast.Constant) and isinstance(node.value, str):
                    self.assertNotIn("%", node.value, file)
                if isinstance(node, ast.BinOp) and isinstance(node.op, ast.Pow):
                    self.assertIsInstance(node.right, ast.Constant, file)
                    self.assertIn(node.right.value, range(65), file)

    def test_errors_are_raised_by_the_name_of_their_class(self):
        for file, text, tree in self.each_file():
            for node in ast.walk(tree):
                self.assertNotIsInstance(node, ast.Try, file)
                if isinstance(node, ast.Raise):
                    self.assertIsInstance(node.exc, ast.Call, file)
                    self.assertIsInstance(node.exc.func, ast.Name, file)

    def test_no_statement_or_value_from_outside_the_language(self):
        for file, text, tree in self.each_file():
            for node in ast.walk(tree):
                self.assertNotIsInstance(node, ANYWHERE, file)
                if isinstance(node, ast.Constant):
                    self.assertNotIsInstance(node.value, (float, complex), file)
                if isinstance(node, ast.ClassDef):
                    self.assertEqual(node.decorator_list, [], file)
            self.assertIsNone(re.search(r"\b_wall|\b_WallAttr", text), file)


if __name__ == "__main__":
    unittest.main()
