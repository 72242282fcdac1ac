"""What of the rules of the language can be told from the text of the package.

The rules are narrower than this; here stand those that are broken most easily.
"""

import ast
import builtins
import pathlib
import unittest

FOLDER = pathlib.Path(__file__).resolve().parent.parent / "pitlots"
ALLOWED = set("""
    len range enumerate zip min max sum abs sorted reversed int str bool list tuple dict set isinstance ord repr any all
    divmod iter next super ValueError KeyError
""".split())
METHODS = set("""
    append clear copy count endswith extend find get index insert isalnum isalpha isdigit islower isspace isupper items
    join keys ljust lower lstrip partition pop remove replace reverse rfind rjust rpartition rsplit rstrip setdefault
    split splitlines startswith strip update upper values zfill bit_length
""".split())
BARRED = (ast.Global, ast.Lambda, ast.GeneratorExp, ast.Yield, ast.YieldFrom, ast.Await, ast.AsyncFunctionDef,
          ast.AsyncFor, ast.AsyncWith, ast.Try, ast.With, ast.Set, ast.Delete, ast.Div, ast.Pow, ast.Mod, ast.Import)
AT_ONCE = {"range", "zip", "enumerate", "reversed"}
WORDS = ("register mro elements open input law type typing enum eval exec vars dir id hash getattr setattr globals "
         "locals compile help format").split()


def nodes_of(path, *kinds):
    return [node for node in ast.walk(ast.parse(path.read_text())) if isinstance(node, kinds)]


def bound_names(path):
    """All names that a file gives a meaning."""
    names = [node.id for node in nodes_of(path, ast.Name) if isinstance(node.ctx, ast.Store)]
    names += [node.name for node in nodes_of(path, ast.FunctionDef, ast.ClassDef)]
    names += [node.arg for node in nodes_of(path, ast.arg, ast.keyword) if node.arg]
    return names + [alias.asname or alias.name for node in nodes_of(path, ast.ImportFrom) for alias in node.names]


class LanguageTest(unittest.TestCase):
    def setUp(self):
        self.paths = sorted(FOLDER.glob("*.py"))
        self.assertTrue(self.paths)

    def test_folder_holds_python_files_alone(self):
        others = [path.name for path in FOLDER.iterdir() if path.suffix != ".py" and path.name != "__pycache__"]
        self.assertEqual(others, [])

    def test_lines_and_characters(self):
        for path in self.paths:
            text = path.read_text()
            self.assertTrue(all(character == "\n" or " " <= character <= "~" for character in text))
            self.assertTrue(len(text.splitlines()) <= 399, path.name)
            self.assertTrue(all(len(line) <= 120 for line in text.splitlines()), path.name)

    def test_size_of_functions(self):
        for path in self.paths:
            for node in nodes_of(path, ast.FunctionDef):
                self.assertTrue(node.end_lineno - node.lineno < 40, node.name)

    def test_barred_statements(self):
        for path in self.paths:
            for node in nodes_of(path, *BARRED):
                self.fail(ast.dump(node))
            for node in nodes_of(path, ast.Constant):
                self.assertNotIsInstance(node.value, (float, complex))
                self.assertFalse(isinstance(node.value, str) and "%" in node.value)

    def test_imports(self):
        for path in self.paths:
            for node in nodes_of(path, ast.ImportFrom):
                names = [alias.name for alias in node.names]
                self.assertEqual((node.level, [alias.asname for alias in node.names]), (0, [None] * len(names)))
                if node.module == "math":
                    self.assertEqual(names, ["gcd"])
                    continue
                self.assertTrue(node.module.startswith("pitlots."))
                file = FOLDER / (node.module.split(".")[1] + ".py")
                tops = ast.parse(file.read_text()).body
                told = [top.name for top in tops if isinstance(top, (ast.FunctionDef, ast.ClassDef))]
                told += [top.targets[0].id for top in tops if isinstance(top, ast.Assign)]
                self.assertTrue(set(names) <= set(told), names)

    def test_imports_are_used(self):
        for path in self.paths:
            used = {node.id for node in nodes_of(path, ast.Name)}
            for node in nodes_of(path, ast.ImportFrom):
                for alias in node.names:
                    self.assertIn(alias.name, used)

    def test_names(self):
        for path in self.paths:
            names = bound_names(path)
            imported = [alias.name for node in nodes_of(path, ast.ImportFrom) for alias in node.names]
            for name in names:
                self.assertFalse(name in vars(builtins), (path.name, name))
                self.assertFalse(name in WORDS, name)
                self.assertTrue(name.isascii() and (not name.startswith("_") or name == "_" or name[1] == "_"), name)
            for name in imported:
                self.assertEqual(names.count(name), 1, name)

    def test_module_level_names_are_bound_once(self):
        for path in self.paths:
            body = ast.parse(path.read_text()).body
            names = [top.name for top in body if isinstance(top, (ast.FunctionDef, ast.ClassDef))]
            names += [top.targets[0].id for top in body if isinstance(top, ast.Assign)]
            self.assertEqual(len(names), len(set(names)))
            local = [node.id for node in nodes_of(path, ast.Name) if isinstance(node.ctx, ast.Store)]
            local += [node.arg for node in nodes_of(path, ast.arg)]
            for name in names:
                at_top = sum(isinstance(top, ast.Assign) and top.targets[0].id == name for top in body)
                self.assertEqual(local.count(name), at_top, (path.name, name))

    def test_builtins_and_methods(self):
        own = {node.name for path in self.paths for node in nodes_of(path, ast.FunctionDef)}
        for path in self.paths:
            bound = set(bound_names(path))
            for node in nodes_of(path, ast.Name):
                if node.id in vars(builtins) and node.id not in bound:
                    self.assertIn(node.id, ALLOWED)
            for node in nodes_of(path, ast.Call):
                if isinstance(node.func, ast.Attribute):
                    self.assertIn(node.func.attr, METHODS | own | {"__init__"})

    def test_ranges_and_views_are_iterated_at_once(self):
        takers = {"list", "tuple", "dict", "sorted", "sum", "any", "all", "enumerate", "zip", "min", "max", "len"}
        for path in self.paths:
            at_once = set()
            for node in nodes_of(path, ast.For, ast.comprehension):
                at_once.add(ast.dump(node.iter, include_attributes=True))
            for node in nodes_of(path, ast.Call):
                if isinstance(node.func, ast.Name) and node.func.id in takers and node.args:
                    at_once.add(ast.dump(node.args[0], include_attributes=True))
                # Of these just a range can be reversed.
                if ast.unparse(node).startswith("reversed(range("):
                    at_once.add(ast.dump(node.args[0], include_attributes=True))
            for node in nodes_of(path, ast.Call):
                name = node.func.id if isinstance(node.func, ast.Name) else getattr(node.func, "attr", "")
                if name in AT_ONCE | {"items", "keys", "values"}:
                    self.assertIn(ast.dump(node, include_attributes=True), at_once)

    def test_is_stands_beside_none_true_and_false(self):
        for path in self.paths:
            for node in nodes_of(path, ast.Compare):
                if any(isinstance(sign, (ast.Is, ast.IsNot)) for sign in node.ops):
                    self.assertIsInstance(node.comparators[-1], ast.Constant)

    def test_raised_on_the_spot(self):
        for path in self.paths:
            for node in nodes_of(path, ast.Raise):
                self.assertIsInstance(node.exc, ast.Call)
                self.assertIsInstance(node.exc.func, ast.Name)


if __name__ == "__main__":
    unittest.main()
