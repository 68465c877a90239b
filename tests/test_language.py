"""A part of the rules for the files of the package: what a small reader of the code can see."""

import ast
import builtins
import os
import re
import unittest

import ebbkeep

FOLDER = os.path.dirname(ebbkeep.__file__)

BUILTINS = set(
    "len range enumerate zip min max sum abs sorted reversed int str bool list tuple dict set isinstance ord repr"
    " any all divmod super ValueError".split()
)
METHODS = set(
    "append clear copy count endswith extend find get index insert isalnum isalpha isdigit islower isspace isupper"
    " items join keys ljust lower lstrip partition pop remove replace reverse rfind rjust rpartition rsplit rstrip"
    " setdefault split splitlines startswith strip update upper values zfill bit_length add discard __init__".split()
)
STATEMENTS = (
    ast.FunctionDef, ast.ClassDef, ast.Return, ast.Assign, ast.AugAssign, ast.For, ast.While, ast.If, ast.Raise,
    ast.Try, ast.ImportFrom, ast.Expr, ast.Pass, ast.Break, ast.Continue, ast.Assert, ast.Delete,
)
BARRED = {"register", "mro", "elements", "open", "input", "law", "eval", "exec", "compile", "globals", "locals", "vars",
          "dir", "id", "type", "help", "exit", "quit", "os", "sys", "enum", "Enum", "typing", "namedtuple", "dataclass"}

BARRED_ATTRIBUTES = {"_cold", "_tuplegetter", "_outside", "_record", "_written_out", "_member_names", "items", "keys",
                     "values", "pop", "append", "clear", "extend", "insert", "remove", "reverse", "setdefault", "sort",
                     "args", "encode", "decode", "hex", "format", "mro", "register", "elements", "open", "input", "law"}


def files():
    return sorted(name for name in os.listdir(FOLDER) if name != "__pycache__")


def text_of(name):
    with open(os.path.join(FOLDER, name), encoding="utf-8") as file:
        return file.read()


def trees():
    return {name: ast.parse(text_of(name)) for name in files()}


def names_bound(tree):
    """Return all names that the file gives to something, attributes and methods left out."""
    found = []
    for node in ast.walk(tree):
        if isinstance(node, ast.Name) and not isinstance(node.ctx, ast.Load):
            found.append(node.id)
        elif isinstance(node, ast.arg):
            found.append(node.arg)
        elif isinstance(node, ast.ImportFrom):
            found += [part.name for part in node.names]
    return found + [node.name for node in tree.body if isinstance(node, (ast.FunctionDef, ast.ClassDef))]


def names_defined(tree):
    """Return the names of the functions, classes and values that the file defines."""
    found = [node.name for node in tree.body if isinstance(node, (ast.FunctionDef, ast.ClassDef))]
    return found + [target.id for node in tree.body if isinstance(node, ast.Assign) for target in node.targets]


def names_inside(function):
    """Return the parameters and local variables of a function, those of what is nested in it included."""
    found = [node.arg for node in ast.walk(function) if isinstance(node, ast.arg)]
    names = [node for node in ast.walk(function) if isinstance(node, ast.Name)]
    return found + [node.id for node in names if isinstance(node.ctx, ast.Store)]


def parts_of(tree, kind):
    return [node for node in ast.walk(tree) if isinstance(node, kind)]


class Language(unittest.TestCase):
    def test_files(self):
        for name in files():
            self.assertRegex(name, r"\A(__init__|[a-z][a-z_0-9]*)\.py\Z")
            text = text_of(name)
            self.assertRegex(text, r"\A[\n -~]*\Z", name)
            self.assertLessEqual(len(text.split("\n")), 399, name)
            self.assertLessEqual(max(len(line) for line in text.split("\n")), 120, name)

    def test_functions_are_small(self):
        for name, tree in trees().items():
            for node in ast.walk(tree):
                if isinstance(node, ast.FunctionDef):
                    self.assertLessEqual(node.end_lineno - node.lineno + 1, 40, (name, node.name))
                    self.assertEqual(node.decorator_list, [], (name, node.name))

    def test_statements(self):
        for name, tree in trees().items():
            for node in ast.walk(tree):
                if isinstance(node, ast.stmt):
                    self.assertIsInstance(node, STATEMENTS, (name, node.lineno))
            for node in tree.body:
                kinds = (ast.FunctionDef, ast.ClassDef, ast.Assign, ast.ImportFrom, ast.Expr)
                self.assertIsInstance(node, kinds, (name, node.lineno))

    def test_imports_name_the_file_that_defines_the_name(self):
        before = {}
        for name, tree in trees().items():
            before[name] = []
            for node in ast.walk(tree):
                if isinstance(node, ast.ImportFrom):
                    self.assertRegex(node.module, r"\Aebbkeep\.[a-z_]+\Z")
                    source = node.module.split(".")[1] + ".py"
                    before[name].append(source)
                    defined = names_defined(trees()[source])
                    for part in node.names:
                        self.assertIsNone(part.asname)
                        self.assertIn(part.name, defined, name)
        left = set(before)
        while left:
            ready = {name for name in left if not left.intersection(before[name])}
            self.assertTrue(ready, f"files that import from each other: {sorted(left)}")
            left -= ready

    def test_names(self):
        for name, tree in trees().items():
            for bound in names_bound(tree):
                self.assertFalse(hasattr(builtins, bound) or bound in BARRED, (name, bound))
                self.assertRegex(bound, r"\A(_|_?[A-Za-z][A-Za-z0-9_]*)\Z", name)
            for node in ast.walk(tree):
                if isinstance(node, ast.Name) and hasattr(builtins, node.id):
                    self.assertIn(node.id, BUILTINS, (name, node.lineno))
                if isinstance(node, ast.Name) and node.id == "_":
                    self.assertIsInstance(node.ctx, ast.Store, (name, node.lineno))

    def test_names_are_bound_once(self):
        for name, tree in trees().items():
            imported = [part.name for node in parts_of(tree, ast.ImportFrom) for part in node.names]
            top = imported + names_defined(tree)
            self.assertEqual(sorted(set(top)), sorted(top), name)
            barred = imported + [node.name for node in parts_of(tree, ast.ClassDef)]
            for function in parts_of(tree, (ast.FunctionDef, ast.Lambda)):
                for inside in names_inside(function):
                    self.assertNotIn(inside, barred, (name, function.lineno))

    def test_no_name_is_a_method_and_an_attribute(self):
        for name, tree in trees().items():
            for node in parts_of(tree, ast.ClassDef):
                methods = [part.name for part in node.body if isinstance(part, ast.FunctionDef)]
                self.assertEqual(sorted(set(methods)), sorted(methods), (name, node.name))
                attributes = [part.attr for part in parts_of(node, ast.Attribute) if isinstance(part.ctx, ast.Store)]
                self.assertEqual(set(methods) & set(attributes), set(), (name, node.name))

    def test_attributes(self):
        for name, tree in trees().items():
            for node in parts_of(tree, ast.Attribute):
                if isinstance(node.ctx, ast.Store):
                    self.assertIsInstance(node.value, ast.Name, (name, node.lineno))
                    self.assertNotIn(node.attr, BARRED_ATTRIBUTES, (name, node.lineno))
                    self.assertFalse(node.attr.startswith("__"), (name, node.lineno))

    def test_each_call_of_a_function_passes_what_it_takes(self):
        parameters = {}
        for name, tree in trees().items():
            for node in tree.body:
                if isinstance(node, ast.FunctionDef):
                    parameters.setdefault(name, {})[node.name] = len(node.args.args)
        for name, tree in trees().items():
            known = dict(parameters.get(name, {}))
            for node in parts_of(tree, ast.ImportFrom):
                source = parameters.get(node.module.split(".")[1] + ".py", {})
                known.update({part.name: source[part.name] for part in node.names if part.name in source})
            for node in parts_of(tree, ast.Call):
                if isinstance(node.func, ast.Name) and node.func.id in known:
                    self.assertEqual(len(node.args) + len(node.keywords), known[node.func.id], (name, node.lineno))

    def test_no_import_is_idle(self):
        for name, tree in trees().items():
            read = {node.id for node in parts_of(tree, ast.Name)}
            for node in parts_of(tree, ast.ImportFrom):
                for part in node.names:
                    self.assertIn(part.name, read, name)

    def test_lambdas(self):
        for name, tree in trees().items():
            lines = [node.lineno for node in parts_of(tree, ast.Lambda)]
            self.assertEqual(sorted(set(lines)), sorted(lines), name)

    def test_what_is_iterated_is_not_kept(self):
        for name, tree in trees().items():
            for node in parts_of(tree, (ast.Assign, ast.Return)):
                if isinstance(node.value, ast.Call) and isinstance(node.value.func, ast.Name):
                    self.assertNotIn(node.value.func.id, ("zip", "enumerate", "reversed", "range"), (name, node.lineno))

    def test_sets_are_asked_only(self):
        for name, tree in trees().items():
            for function in parts_of(tree, ast.FunctionDef):
                kept = [node.targets[0].id for node in parts_of(function, ast.Assign) if ast.unparse(node.value)[:4] == "set("]
                asked = [part.id for node in parts_of(function, ast.Compare) for part in node.comparators
                         if isinstance(part, ast.Name) and isinstance(node.ops[0], (ast.In, ast.NotIn))]
                for node in parts_of(function, ast.Name):
                    if node.id in kept and isinstance(node.ctx, ast.Load):
                        self.assertIn(node.id, asked, (name, node.lineno))

    def test_methods(self):
        own = {node.name for tree in trees().values() for node in ast.walk(tree) if isinstance(node, ast.FunctionDef)}
        for name, tree in trees().items():
            for node in ast.walk(tree):
                if isinstance(node, ast.Call) and isinstance(node.func, ast.Attribute):
                    self.assertIn(node.func.attr, METHODS | own, (name, node.lineno))

    def test_values(self):
        for name, tree in trees().items():
            for node in ast.walk(tree):
                self.assertNotIsInstance(node, (ast.Div, ast.Yield, ast.Set, ast.SetComp, ast.GeneratorExp), name)
                if isinstance(node, ast.Constant):
                    self.assertNotIsInstance(node.value, (float, bytes), (name, node.lineno))
                    if isinstance(node.value, str):
                        self.assertIsNone(re.search(r"%|__", node.value), (name, node.lineno))


if __name__ == "__main__":
    unittest.main()
