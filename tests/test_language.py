"""The rules of LANGUAGE.md that can be told from the code alone; it is no full list."""

import ast
import builtins
import pathlib
import unittest

PACKAGE = pathlib.Path(__file__).resolve().parent.parent / "noneorsome"
SOURCES = {path: path.read_text() for path in sorted(PACKAGE.rglob("*.py"))}
TREES = {path: ast.parse(text) for path, text in SOURCES.items()}

BUILTINS = """len range enumerate zip min max sum abs sorted reversed int str bool list tuple dict set isinstance ord repr
any all divmod map super staticmethod property iter next NotImplemented ValueError TypeError KeyError""".split()
METHODS = """append clear copy count endswith extend find get index insert isalnum isalpha isdigit islower isspace isupper
items join keys ljust lower lstrip partition pop remove replace reverse rfind rjust rpartition rsplit rstrip setdefault
split splitlines startswith strip update upper values zfill bit_length add""".split()
DUNDERS = """__init__ __eq__ __str__ __len__ __enter__ __exit__ __call__ __iter__ __lt__ __le__ __add__ __sub__ __mul__
__and__ __or__ __rshift__ __radd__ __rsub__ __rmul__ __iadd__ __isub__ __ior__ __invert__ __contains__ __getitem__
__setitem__""".split()
NOWHERE = "register mro elements open input law version_info with_traceback add_note".split()
# Narrower than the rules, which allow some of these in some places.
STATEMENTS = (ast.Global, ast.AugAssign, ast.AnnAssign, ast.AsyncFunctionDef, ast.Await, ast.Lambda, ast.GeneratorExp)


def places(kinds):
    """All nodes of some kinds, each with a text that tells its place."""
    for path, tree in TREES.items():
        for node in ast.walk(tree):
            if isinstance(node, kinds):
                yield f"{path.name}:{getattr(node, 'lineno', 0)}", node


def own_methods():
    return {
        one.name
        for _, kind in places(ast.ClassDef)
        for one in kind.body
        if isinstance(one, ast.FunctionDef)
    }


def module_of(path):
    return ".".join(["noneorsome", *path.relative_to(PACKAGE).with_suffix("").parts])


def imports_of(path):
    return [node for node in ast.walk(TREES[path]) if isinstance(node, (ast.Import, ast.ImportFrom))]


class Language(unittest.TestCase):
    def test_files(self):
        for path, text in SOURCES.items():
            with self.subTest(path.name):
                self.assertTrue(all(sign == "\n" or " " <= sign <= "~" for sign in text))
                self.assertLessEqual(len(text.splitlines()), 399)
                self.assertLessEqual(max([len(line) for line in text.splitlines()]), 120)
                self.assertNotIn(path.stem, dir(builtins))
        others = [path for path in PACKAGE.rglob("*") if path.suffix not in (".py", ".pyc") and path.name != "__pycache__"]
        self.assertEqual(others, [])

    def test_functions_are_short(self):
        for place, node in places(ast.FunctionDef):
            with self.subTest(place):
                self.assertLessEqual(node.end_lineno - node.lineno + 1, 40)

    def test_imports(self):
        for path in TREES:
            for node in imports_of(path):
                with self.subTest(f"{path.name}:{node.lineno}"):
                    self.assertIsInstance(node, ast.ImportFrom)
                    source = PACKAGE / (node.module.split(".")[-1] + ".py")
                    self.assertEqual(node.module, module_of(source))
                    defined = [getattr(one, "name", None) for one in TREES[source].body]
                    given = [name.id for one in TREES[source].body if isinstance(one, ast.Assign) for name in one.targets]
                    for alias in node.names:
                        self.assertIn(alias.name, defined + given)

    def test_no_two_files_import_from_each_other(self):
        needs = {module_of(path): [node.module for node in imports_of(path)] for path in TREES}
        while needs:
            free = [name for name, due in needs.items() if not any(other in needs for other in due)]
            self.assertNotEqual(free, [], needs)
            needs = {name: due for name, due in needs.items() if name not in free}

    def test_module_level(self):
        for path, tree in TREES.items():
            for node in tree.body:
                docstring = isinstance(node, ast.Expr) and isinstance(node.value, ast.Constant)
                kinds = (ast.ImportFrom, ast.FunctionDef, ast.ClassDef, ast.Assign)
                self.assertTrue(docstring or isinstance(node, kinds), f"{path.name}:{node.lineno}")

    def test_statements_that_are_not_used(self):
        self.assertEqual([place for place, _ in places(STATEMENTS)], [])

    def test_builtins(self):
        for place, node in places(ast.Name):
            with self.subTest(place):
                if isinstance(node.ctx, ast.Load):
                    self.assertTrue(node.id in BUILTINS or node.id not in dir(builtins), node.id)
                else:
                    self.assertNotIn(node.id, dir(builtins))
        for place, node in places(ast.arg):
            self.assertNotIn(node.arg, dir(builtins), place)

    def test_names(self):
        classes = {node.name for _, node in places(ast.ClassDef)}
        for place, node in places((ast.Name, ast.arg, ast.Attribute, ast.FunctionDef, ast.ClassDef)):
            name = getattr(node, "id", None) or getattr(node, "arg", None) or getattr(node, "attr", None) or node.name
            with self.subTest(place):
                self.assertNotIn(name, NOWHERE)
                self.assertTrue(not name.startswith("__") or name in DUNDERS, name)
                if isinstance(node, ast.arg):
                    self.assertNotIn(name, classes)

    def test_no_local_name_is_one_of_an_import(self):
        for path, tree in TREES.items():
            imported = [alias.asname or alias.name for node in imports_of(path) for alias in node.names]
            for node in ast.walk(tree):
                if isinstance(node, ast.arg):
                    self.assertNotIn(node.arg, imported, f"{path.name}:{node.lineno}")
                if isinstance(node, ast.Name) and not isinstance(node.ctx, ast.Load):
                    self.assertNotIn(node.id, imported, f"{path.name}:{node.lineno}")

    def test_methods_that_are_called(self):
        known = own_methods() | set(METHODS)
        for place, node in places(ast.Call):
            if isinstance(node.func, ast.Attribute):
                self.assertTrue(node.func.attr in known or node.func.attr == "__init__", f"{place} {node.func.attr}")

    def test_no_name_is_a_method_and_an_attribute(self):
        methods = own_methods()
        for place, node in places(ast.Attribute):
            if isinstance(node.ctx, ast.Store):
                self.assertNotIn(node.attr, methods, place)

    def test_a_set_is_added_to_by_no_method_of_its_own(self):
        self.assertNotIn("add", own_methods())

    def test_an_index_has_its_iteration(self):
        for place, node in places(ast.ClassDef):
            names = [one.name for one in node.body if isinstance(one, ast.FunctionDef)]
            self.assertEqual(len(names), len(set(names)), place)
            self.assertTrue("__getitem__" not in names or "__iter__" in names, place)

    def test_sorting_is_plain(self):
        # Beside classes with an order, `sorted` takes what is plainly strings or numbers.
        for place, node in places(ast.Call):
            if isinstance(node.func, ast.Name) and node.func.id in ("sorted", "min", "max"):
                keys = [one.value.id for one in node.keywords if one.arg == "key" and isinstance(one.value, ast.Name)]
                first = node.args[0]
                plain = isinstance(first, ast.Call) and isinstance(first.func, ast.Name) and first.func.id == "set"
                number = len(node.args) == 2 and isinstance(first, ast.Constant)
                self.assertTrue(plain or number or keys in (["str"], ["int"], ["len"]), place)

    def test_strings(self):
        for place, node in places(ast.Constant):
            if isinstance(node.value, str):
                self.assertFalse(chr(37) in node.value, place)
                self.assertFalse(node.value.startswith("__") and node.value.endswith("__"), place)
            self.assertNotIsInstance(node.value, float, place)

    def test_identity(self):
        for place, node in places(ast.Compare):
            for sign, other in zip(node.ops, node.comparators):
                if isinstance(sign, (ast.Is, ast.IsNot)):
                    self.assertTrue(isinstance(other, ast.Constant) and other.value in (None, True, False), place)

    def test_any_and_all_take_lists(self):
        for place, node in places(ast.Call):
            if isinstance(node.func, ast.Name) and node.func.id in ("any", "all"):
                self.assertIsInstance(node.args[0], ast.ListComp, place)


if __name__ == "__main__":
    unittest.main()
