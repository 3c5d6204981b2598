"""Tests of the code itself: rules of the language that a plain reading of each file's syntax tree can check."""

import ast
import builtins
import unittest

from test_form import files_of_package

METHODS_OF_BUILTIN_VALUES = set(
    "append clear copy count endswith extend find get index insert isalnum isalpha isdigit islower isspace isupper "
    "items join keys ljust lower lstrip partition pop remove replace reverse rfind rjust rpartition rsplit rstrip "
    "setdefault split splitlines startswith strip update upper values zfill bit_length add discard sort isascii".split())

STATEMENTS = (
    ast.FunctionDef, ast.ClassDef, ast.Return, ast.Assign, ast.AugAssign, ast.For, ast.While, ast.If, ast.With,
    ast.Raise, ast.Try, ast.Import, ast.ImportFrom, ast.Expr, ast.Pass, ast.Break, ast.Continue, ast.Delete)

DOUBLE_METHODS = {"__init__", "__eq__", "__len__", "__contains__", "__getitem__", "__iter__", "__call__"}


def functions_of(tree):
    return [node for node in ast.walk(tree) if isinstance(node, ast.FunctionDef)]


def classes_of(tree):
    return [node for node in ast.walk(tree) if isinstance(node, ast.ClassDef)]


def bound_in_functions(tree):
    """The names of parameters, local variables and nested functions."""
    names = [node.arg for node in ast.walk(tree) if isinstance(node, ast.arg)]
    for function in functions_of(tree):
        inner = [node for node in ast.walk(function) if node is not function]
        names += [node.id for node in inner if isinstance(node, ast.Name) and not isinstance(node.ctx, ast.Load)]
        names += [node.name for node in inner if isinstance(node, (ast.FunctionDef, ast.ExceptHandler)) and node.name]
    return set(names)


def imported(tree):
    return [alias.name for node in ast.walk(tree) if isinstance(node, ast.ImportFrom) for alias in node.names]


def parents(tree):
    return {inner: node for node in ast.walk(tree) for inner in ast.iter_child_nodes(node)}


class Names(unittest.TestCase):
    def test_no_local_name_hides_another(self):
        for path, text, tree in files_of_package():
            taken = set(imported(tree)) | {node.name for node in classes_of(tree)} | set(dir(builtins))
            self.assertEqual(sorted(bound_in_functions(tree) & taken), [], path)

    def test_each_name_is_bound_once_in_a_module(self):
        for path, text, tree in files_of_package():
            names = imported(tree)
            for node in tree.body:
                if isinstance(node, (ast.FunctionDef, ast.ClassDef)):
                    names.append(node.name)
                elif isinstance(node, ast.Assign):
                    names.extend(target.id for target in node.targets)
            self.assertEqual(len(names), len(set(names)), path)
            self.assertEqual(sorted(set(names) & set(dir(builtins))), [], path)

    def test_no_name_is_a_method_and_an_attribute(self):
        methods, attributes = set(), set()
        for path, text, tree in files_of_package():
            for made in classes_of(tree):
                methods |= {node.name for node in made.body if isinstance(node, ast.FunctionDef)}
                attributes |= {
                    node.attr for node in ast.walk(made)
                    if isinstance(node, ast.Attribute) and isinstance(node.ctx, ast.Store)}
        self.assertEqual(sorted(methods & attributes), [])
        barred = set("items keys values pop update append clear extend insert remove reverse setdefault sort args".split())
        self.assertEqual(sorted(attributes & barred), [])

    def test_imports_name_the_file_that_defines_and_make_no_circle(self):
        trees = {path.stem: tree for path, text, tree in files_of_package()}
        reached = {}
        for name, tree in trees.items():
            reached[name] = set()
            for node in ast.walk(tree):
                if isinstance(node, ast.ImportFrom):
                    other = node.module.split(".")[1]
                    reached[name].add(other)
                    defined = {getattr(part, "name", None) for part in trees[other].body} | {
                        target.id for part in trees[other].body if isinstance(part, ast.Assign) for target in part.targets}
                    self.assertLessEqual({alias.name for alias in node.names}, defined, name)
        for _ in trees:
            reached = {name: others.union(*[reached[other] for other in others]) for name, others in reached.items()}
        for name, others in reached.items():
            self.assertNotIn(name, others)

    def test_imports_are_used(self):
        for path, text, tree in files_of_package():
            used = {node.id for node in ast.walk(tree) if isinstance(node, ast.Name)}
            self.assertEqual(sorted(set(imported(tree)) - used), [], path)


class Statements(unittest.TestCase):
    def test_statements_and_expressions(self):
        for path, text, tree in files_of_package():
            for node in ast.walk(tree):
                if isinstance(node, ast.stmt):
                    self.assertIsInstance(node, STATEMENTS, path)
                self.assertNotIsInstance(
                    node, (ast.Div, ast.AnnAssign, ast.NamedExpr, ast.GeneratorExp, ast.FormattedValue, ast.Await), path)
                if isinstance(node, ast.Constant):
                    self.assertIn(node.value.__class__, (str, int, bool, None.__class__), path)
                if isinstance(node, ast.arg):
                    self.assertIsNone(node.annotation, path)

    def test_modules_hold_functions_classes_and_plain_values(self):
        for path, text, tree in files_of_package():
            self.assertIsInstance(ast.get_docstring(tree), str, path)
            for node in tree.body[1:]:
                self.assertIsInstance(node, (ast.ImportFrom, ast.FunctionDef, ast.ClassDef, ast.Assign), path)

    def test_is_stands_beside_none_true_and_false(self):
        for path, text, tree in files_of_package():
            for node in ast.walk(tree):
                if isinstance(node, ast.Compare) and any(isinstance(sign, (ast.Is, ast.IsNot)) for sign in node.ops):
                    self.assertTrue(all(isinstance(side, ast.Constant) for side in node.comparators), path)

    def test_methods_are_own_ones_or_allowed_ones(self):
        own = {node.name for path, text, tree in files_of_package() for node in functions_of(tree)}
        for path, text, tree in files_of_package():
            for node in ast.walk(tree):
                if isinstance(node, ast.Call) and isinstance(node.func, ast.Attribute):
                    self.assertIn(node.func.attr, own | METHODS_OF_BUILTIN_VALUES, path)
                    self.assertNotIn(node.func.attr, ("sort", "format"), path)

    def test_sets_stand_only_where_they_are_used(self):
        for path, text, tree in files_of_package():
            around = parents(tree)
            for node in ast.walk(tree):
                is_call = isinstance(node, ast.Call) and isinstance(node.func, ast.Name) and node.func.id == "set"
                if is_call or isinstance(node, (ast.Set, ast.SetComp)):
                    outer = around[node]
                    self.assertIsInstance(outer, (ast.Call, ast.Compare), (path, node.lineno))
                    if isinstance(outer, ast.Call):
                        self.assertIn(getattr(outer.func, "id", None), ("sorted", "len"), (path, node.lineno))

    def test_what_is_iterated_on_the_spot(self):
        for path, text, tree in files_of_package():
            around = parents(tree)
            for node in ast.walk(tree):
                name = getattr(getattr(node, "func", None), "id", None) or getattr(getattr(node, "func", None), "attr", None)
                if name in ("zip", "enumerate", "range", "reversed", "items", "keys", "values"):
                    self.assertIsInstance(around[node], (ast.For, ast.comprehension, ast.Call), (path, node.lineno))


class Classes(unittest.TestCase):
    def test_double_underscore_methods(self):
        for path, text, tree in files_of_package():
            for made in classes_of(tree):
                names = [node.name for node in made.body if isinstance(node, ast.FunctionDef)]
                self.assertEqual(len(names), len(set(names)))
                self.assertLessEqual({name for name in names if name.startswith("__")}, DOUBLE_METHODS)
                self.assertTrue("__getitem__" not in names or "__iter__" in names)

    def test_no_decorators(self):
        for path, text, tree in files_of_package():
            for node in functions_of(tree) + classes_of(tree):
                self.assertEqual(node.decorator_list, [], path)


if __name__ == "__main__":
    unittest.main()
