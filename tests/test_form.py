"""The form of the package's files, as far as a short test can see it: sizes, signs, imports, words."""

import ast
import builtins
import pathlib
import unittest

PACKAGE = pathlib.Path(__file__).resolve().parent.parent / "flashtrees"
FILES = sorted(PACKAGE.rglob("*.py"))
LIBRARY = {"heapq", "math", "itertools", "collections"}
BUILTINS = set("""len range enumerate zip min max sum abs sorted reversed int str bool list tuple dict set isinstance
    ord repr any all divmod pow getattr hasattr setattr iter next map super property staticmethod classmethod ValueError
    KeyError ZeroDivisionError StopIteration Exception TypeError LookupError IndexError NotImplemented""".split())
NO_BUILTINS = set(dir(builtins)) - BUILTINS
NO_STATEMENTS = (ast.Global, ast.AsyncFunctionDef, ast.Await, ast.AsyncFor, ast.AsyncWith, ast.Div)
NO_NAMES = set("""register mro elements open input law version_info with_traceback add_note eval exec compile globals
    locals vars dir id type delattr chr print float frozenset bytes bytearray memoryview""".split())
METHODS = set("""append clear copy count endswith extend find get index insert isalnum isalpha isdigit islower isspace
    isupper items join keys ljust lower lstrip partition pop remove replace reverse rfind rjust rpartition rsplit rstrip
    setdefault split splitlines startswith strip update upper values zfill bit_length add discard sort""".split())


def trees():
    return [(path, ast.parse(path.read_text())) for path in FILES]


def nodes():
    return [(path.name, node) for path, tree in trees() for node in ast.walk(tree)]


class FormTest(unittest.TestCase):
    def test_the_folder_contains_nothing_else(self):
        self.assertIn(PACKAGE / "__init__.py", FILES)
        for path in PACKAGE.rglob("*"):
            if "__pycache__" not in path.parts:
                self.assertTrue(path.is_dir() or path.suffix == ".py", path)

    def test_sizes_and_signs(self):
        for path in FILES:
            text = path.read_text(encoding="utf-8")
            lines = text.split("\n")
            self.assertLessEqual(len(lines) - 1, 399, path)
            self.assertLessEqual(max(map(len, lines)), 120, path)
            self.assertEqual([sign for sign in text if sign != "\n" and not " " <= sign <= "~"], [], path)

    def test_sizes_of_functions(self):
        for name, node in nodes():
            if isinstance(node, ast.FunctionDef):
                self.assertLessEqual(node.end_lineno - node.lineno + 1, 40, (name, node.name))

    def test_imports(self):
        for name, node in nodes():
            if isinstance(node, ast.Import):
                self.assertEqual((name, [each.name for each in node.names]), ("__main__.py", ["sys"]))
            if isinstance(node, ast.ImportFrom):
                self.assertEqual(node.level, 0, name)
                self.assertTrue(node.module.split(".")[0] in LIBRARY | {"flashtrees", "__future__"},
                                (name, node.module))
                self.assertNotIn("*", [each.name for each in node.names])

    def test_imports_name_the_file_that_defines(self):
        for name, node in nodes():
            if isinstance(node, ast.ImportFrom) and node.module.startswith("flashtrees."):
                tree = ast.parse((PACKAGE / (node.module.split(".", 1)[1] + ".py")).read_text())
                bound = [each.name for each in tree.body if isinstance(each, (ast.FunctionDef, ast.ClassDef))]
                bound += [target.id for each in tree.body if isinstance(each, ast.Assign) for target in each.targets]
                for each in node.names:
                    self.assertIn(each.name, bound, name)

    def test_no_parameter_or_variable_has_the_name_of_an_import_or_a_class(self):
        for path, tree in trees():
            taken = {each.name for node in tree.body if isinstance(node, ast.ImportFrom) for each in node.names}
            taken |= {node.name for node in tree.body if isinstance(node, ast.ClassDef)} | NO_BUILTINS | BUILTINS
            for node in ast.walk(tree):
                if isinstance(node, ast.arg):
                    self.assertNotIn(node.arg, taken, path)
                if isinstance(node, ast.Name) and isinstance(node.ctx, ast.Store):
                    self.assertNotIn(node.id, taken, path)

    def test_statements_names_and_builtins(self):
        for name, node in nodes():
            self.assertNotIsInstance(node, NO_STATEMENTS, name)
            if isinstance(node, ast.Name):
                self.assertNotIn(node.id, NO_NAMES | NO_BUILTINS, name)
            if isinstance(node, (ast.FunctionDef, ast.ClassDef)):
                self.assertNotIn(node.name, NO_NAMES | NO_BUILTINS, name)

    def test_module_level(self):
        for path, tree in trees():
            for index, node in enumerate(tree.body):
                is_docstring = index == 0 and isinstance(node, ast.Expr) and isinstance(node.value, ast.Constant)
                is_plain = isinstance(node, (ast.ImportFrom, ast.FunctionDef, ast.ClassDef, ast.Assign))
                self.assertTrue(is_docstring or is_plain or path.name == "__main__.py", (path, ast.dump(node)))

    def test_methods_are_own_ones_or_allowed_ones(self):
        own = {node.name for _, node in nodes() if isinstance(node, ast.FunctionDef)}
        for name, node in nodes():
            if isinstance(node, ast.Call) and isinstance(node.func, ast.Attribute):
                self.assertIn(node.func.attr, own | METHODS | {"__init__"}, name)

    def test_methods_properties_and_attributes_have_names_of_their_own(self):
        classes = [node for _, node in nodes() if isinstance(node, ast.ClassDef)]
        parts = [part for node in classes for part in node.body if isinstance(part, ast.FunctionDef)]
        properties = {part.name for part in parts if part.decorator_list}
        methods = {part.name for part in parts if not part.decorator_list}
        attributes = [node for _, node in nodes() if isinstance(node, ast.Attribute)]
        stored = {node.attr for node in attributes if isinstance(node.ctx, ast.Store)}
        self.assertEqual((properties & methods, (properties | methods) & stored), (set(), set()))
        for name, node in nodes():
            if isinstance(node, ast.Attribute) and isinstance(node.ctx, ast.Load):
                self.assertIn(node.attr, properties | methods | stored | METHODS, name)

    def test_patterns_capture_no_names_that_mean_something_else(self):
        for path, tree in trees():
            taken = {each.name for node in tree.body if isinstance(node, ast.ImportFrom) for each in node.names}
            for function in [node for node in ast.walk(tree) if isinstance(node, ast.FunctionDef)]:
                captured = [node.name for node in ast.walk(function) if isinstance(node, (ast.MatchAs, ast.MatchStar))]
                named = {each.arg for each in function.args.args}
                self.assertFalse(set(captured) & (taken | named | BUILTINS | NO_BUILTINS), (path, function.name))

    def test_numbers_and_strings(self):
        for name, node in nodes():
            if isinstance(node, ast.Constant):
                self.assertNotIsInstance(node.value, (float, bytes), name)
                if isinstance(node.value, str):
                    self.assertNotIn("%", node.value, name)
            if isinstance(node, ast.BinOp) and isinstance(node.op, ast.Pow):
                self.assertIsInstance(node.right, ast.Constant, name)


if __name__ == "__main__":
    unittest.main()
