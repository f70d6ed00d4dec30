"""The interface, and the rules for the files of the package that a test can see."""

import ast
import builtins
import importlib
import inspect
import pathlib
import re
import unittest

FOLDER = pathlib.Path(__file__).resolve().parent.parent / "onesymbol"

# The functions and the classes of the document, file by file.
INTERFACE = {
    "kinds": {"plain": ["kind"]},
    "writing": {"symbol": ["kind"], "declaration_symbol": ["path", "function"]},
    "reading": {"read": ["spelling"], "is_symbol": ["text"], "canonical": ["spelling"], "read_declaration": ["spelling"]},
    "parts": {"parts": ["spelling"], "occurrences": ["spelling", "other"], "identifier_many": ["spelling", "identifier"]},
    "texts": {"length": ["spelling"], "character": ["spelling", "index"], "section": ["spelling", "begin", "end"],
              "first_difference": ["one", "other"], "order": ["one", "other"]},
    "changes": {"rename": ["spelling", "old", "new"], "substitute": ["spelling", "arguments"], "match": ["pattern", "spelling"],
                "unify": ["one", "other"]},
    "table": {"Table": []},
}
METHODS_OF_TABLE = ["add", "declarations", "members", "functions", "resolve"]

# Names that stand nowhere, and words that no file has outside of comments and docstrings.
BARRED_NAMES = ["register", "mro", "elements", "open", "input", "law", "version_info", "with_traceback", "add_note"]
BARRED_WORDS = ["type", "typing", "enum", "Enum", "Flag", "Generic", "Protocol", "ABC", "namedtuple", "dataclass", "overload",
                "contextmanager", "abstractmethod"]

BUILTINS = ["len", "range", "enumerate", "zip", "min", "max", "sum", "abs", "sorted", "reversed", "int", "str", "bool",
            "list", "tuple", "dict", "set", "isinstance", "ord", "repr", "any", "all", "divmod", "super", "ValueError"]
METHODS = ["append", "clear", "copy", "count", "endswith", "extend", "find", "get", "index", "insert", "items", "join",
           "keys", "pop", "remove", "replace", "reverse", "setdefault", "split", "startswith", "strip", "update", "values",
           "__init__"]
UNUSED = (ast.Global, ast.Nonlocal, ast.AsyncFunctionDef, ast.Await, ast.Set, ast.SetComp, ast.Yield, ast.YieldFrom,
          ast.GeneratorExp, ast.Lambda, ast.With, ast.Match, ast.Import, ast.Div, ast.Mod, ast.Pow, ast.Delete, ast.NamedExpr)


def files():
    return sorted(FOLDER.glob("*.py"))


def trees():
    return [(file.name, ast.parse(file.read_text("ascii"))) for file in files()]


class InterfaceTest(unittest.TestCase):

    def test_functions_are_defined_in_their_files(self):
        for name, functions in INTERFACE.items():
            module = importlib.import_module(f"onesymbol.{name}")
            tree = ast.parse((FOLDER / f"{name}.py").read_text("ascii"))
            defined = [node.name for node in tree.body if isinstance(node, (ast.FunctionDef, ast.ClassDef))]
            for function, parameters in functions.items():
                self.assertIn(function, defined)
                self.assertEqual(list(inspect.signature(getattr(module, function)).parameters), parameters)

    def test_methods_stand_in_the_class_itself(self):
        tree = ast.parse((FOLDER / "table.py").read_text("ascii"))
        found, = [node for node in tree.body if isinstance(node, ast.ClassDef) and node.name == "Table"]
        self.assertLessEqual(set(METHODS_OF_TABLE), {node.name for node in found.body if isinstance(node, ast.FunctionDef)})

    def test_errors_are_defined_in_their_file(self):
        tree = ast.parse((FOLDER / "errors.py").read_text("ascii"))
        defined = [node.name for node in tree.body if isinstance(node, ast.ClassDef)]
        self.assertEqual(sorted(defined), sorted(["SymbolError", "NoKind", "NoSpelling", "TooLong", "NoIdentifier",
                                                  "NoIndex", "NoArguments", "NoPath", "Twice"]))


class RulesTest(unittest.TestCase):

    def test_files(self):
        names = [path.name for path in FOLDER.iterdir() if path.name != "__pycache__"]
        self.assertEqual(sorted(names), [file.name for file in files()])
        self.assertIn("__init__.py", names)

    def test_sizes_and_characters(self):
        for file in files():
            lines = file.read_text("ascii").split("\n")
            self.assertLess(len(lines), 400, file.name)
            for line in lines:
                self.assertLessEqual(len(line), 120, file.name)
                self.assertTrue(line == "" or line.isprintable(), file.name)
        for name, tree in trees():
            for node in ast.walk(tree):
                if isinstance(node, ast.FunctionDef):
                    self.assertLessEqual(node.end_lineno - node.lineno + 1, 40, f"{name}: {node.name}")

    def test_imports(self):
        modules = {file.stem for file in files()}
        needs = {}
        for name, tree in trees():
            found = [node for node in ast.walk(tree) if isinstance(node, ast.ImportFrom)]
            for node in found:
                self.assertIn(node, tree.body)
                self.assertEqual(node.level, 0)
                package, module = node.module.split(".")
                self.assertEqual(package, "onesymbol")
                self.assertIn(module, modules)
                self.assertTrue(all(alias.asname is None and alias.name != "*" for alias in node.names))
            needs[name[:-3]] = {node.module.split(".")[1] for node in found}
        while needs:
            free = [name for name, others in needs.items() if not others & set(needs)]
            self.assertTrue(free, f"these import each other: {needs}")
            for name in free:
                del needs[name]

    def test_barred_names_and_words(self):
        for name, tree in trees():
            for node in ast.walk(tree):
                names = [getattr(node, field, None) for field in ("id", "attr", "arg", "name")]
                self.assertFalse(set(BARRED_NAMES + BARRED_WORDS) & {one for one in names if isinstance(one, str)}, name)
                docstring = isinstance(node, ast.Expr) and isinstance(node.value, ast.Constant)
                for child in ast.iter_child_nodes(node):
                    if isinstance(child, ast.Constant) and isinstance(child.value, str) and not docstring:
                        self.assertNotIn("%", child.value, name)
                        self.assertFalse(set(BARRED_WORDS) & set(re.findall("[A-Za-z_]+", child.value)), name)

    def test_names_of_classes_and_imports_mean_nothing_else(self):
        for name, tree in trees():
            taken = {alias.name for node in tree.body if isinstance(node, ast.ImportFrom) for alias in node.names}
            taken |= {node.name for node in tree.body if isinstance(node, ast.ClassDef)}
            for node in ast.walk(tree):
                if isinstance(node, ast.Name) and isinstance(node.ctx, ast.Store):
                    self.assertNotIn(node.id, taken, name)
                if isinstance(node, ast.arg):
                    self.assertNotIn(node.arg, taken, name)

    def test_no_method_and_attribute_of_one_name(self):
        for name, tree in trees():
            for found in [node for node in tree.body if isinstance(node, ast.ClassDef)]:
                methods = {node.name for node in found.body if isinstance(node, ast.FunctionDef)}
                attributes = {node.attr for node in ast.walk(found) if isinstance(node, ast.Attribute)
                              and isinstance(node.ctx, ast.Store)}
                self.assertFalse(methods & attributes, name)

    def test_only_plain_statements_and_names(self):
        for name, tree in trees():
            own = [node.name for _, other in trees() for node in ast.walk(other) if isinstance(node, ast.FunctionDef)]
            for node in ast.walk(tree):
                if isinstance(node, ast.Delete):
                    self.assertTrue(all(isinstance(target, ast.Subscript) for target in node.targets), name)
                else:
                    self.assertNotIsInstance(node, UNUSED, name)
                if isinstance(node, ast.FunctionDef):
                    self.assertEqual(node.decorator_list, [], name)
                if isinstance(node, ast.Call) and isinstance(node.func, ast.Attribute):
                    self.assertIn(node.func.attr, METHODS + own, name)
                if isinstance(node, ast.Name) and hasattr(builtins, node.id):
                    self.assertIn(node.id, BUILTINS, name)
                    self.assertIsInstance(node.ctx, ast.Load, name)
                if isinstance(node, ast.arg):
                    self.assertFalse(hasattr(builtins, node.arg), name)
                if isinstance(node, ast.Constant):
                    self.assertNotIsInstance(node.value, (float, complex, bytes), name)


if __name__ == "__main__":
    unittest.main()
