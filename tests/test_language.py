"""The rules of the language subset that a look at the files can hold; the rest is held by reading."""

import ast
import builtins
import pathlib
import re
import unittest

PACKAGE = pathlib.Path(__file__).parent.parent / "makefirst"

BUILTINS = """
    len range enumerate zip min max sum abs sorted reversed int str bool bytes list tuple dict set frozenset isinstance ord
    repr any all divmod pow getattr hasattr setattr map iter next Exception ValueError TypeError KeyError IndexError
    LookupError ZeroDivisionError ArithmeticError OverflowError RuntimeError NotImplementedError AttributeError
    StopIteration NotImplemented
""".split()

METHODS = """
    append clear copy count endswith extend find get index insert isalnum isalpha isdigit islower isspace isupper items
    join keys ljust lower lstrip partition pop remove replace reverse rfind rjust rpartition rsplit rstrip setdefault
    split splitlines startswith strip update upper values zfill bit_length isascii isdecimal removeprefix removesuffix
""".split()

NODES = (
    ast.AsyncFunctionDef, ast.AsyncFor, ast.AsyncWith, ast.Await, ast.Global, ast.With, ast.Match, ast.NamedExpr,
    ast.GeneratorExp, ast.Yield, ast.YieldFrom, ast.Div, ast.MatMult, ast.Import, ast.JoinedStr, ast.Pow,
)

LIBRARY = {"math": ["comb", "factorial"], "itertools": ["combinations"]}

# A session at the prompt, and so a doctest, leaves its last answer under this name.
KNOWN = [name for name in dir(builtins) if name != "_"]

BARRED = "register mro elements open input law version_info with_traceback add_note type vars dir id exec eval".split()


def files():
    return sorted(PACKAGE.glob("*.py"))


def trees():
    return {path.stem: ast.parse(path.read_text()) for path in files()}


def functions(tree):
    return [node for node in ast.walk(tree) if isinstance(node, ast.FunctionDef)]


def bound_names(function):
    """The parameters and local variables of a function."""
    args = function.args
    names = [arg.arg for arg in args.args + args.kwonlyargs + args.posonlyargs]
    return names + [node.id for node in ast.walk(function) if isinstance(node, ast.Name) and isinstance(node.ctx, ast.Store)]


def all_imports(tree):
    """(module, name) of all that a file imports."""
    return [(node.module, alias.name) for node in ast.walk(tree) if isinstance(node, ast.ImportFrom) for alias in node.names]


def imports(tree):
    """(file, name) of all that a file imports from the package."""
    return [(module.partition(".")[2], name) for module, name in all_imports(tree) if module.startswith("makefirst.")]


def library(tree):
    """The names that a file imports from Python's library."""
    return [name for module, name in all_imports(tree) if module in LIBRARY]


def named(node):
    """The name that a node is; None for another one."""
    return node.id if isinstance(node, ast.Name) else None


def defined(tree):
    """The names that a file binds itself at module level."""
    names = [node.name for node in tree.body if isinstance(node, (ast.FunctionDef, ast.ClassDef))]
    return names + [target.id for node in tree.body if isinstance(node, ast.Assign) for target in node.targets]


class Language(unittest.TestCase):

    def test_files(self):
        for path in PACKAGE.iterdir():
            if path.name != "__pycache__":
                self.assertRegex(path.name, r"^[a-z_0-9]+\.py$")
        self.assertTrue((PACKAGE / "__init__.py").exists())

    def test_lines(self):
        for path in files():
            text = path.read_text(encoding="utf-8")
            self.assertLessEqual(len(text.splitlines()), 399, path.name)
            self.assertIsNone(re.search("[^ -~\n]", text), path.name)
            self.assertLessEqual(max(len(line) for line in text.split("\n")), 120, path.name)

    def test_functions_are_small(self):
        for stem, tree in trees().items():
            for function in functions(tree):
                self.assertLessEqual(function.end_lineno - function.lineno + 1, 40, (stem, function.name))
                self.assertEqual(function.decorator_list, [], (stem, function.name))

    def test_statements_and_expressions(self):
        for stem, tree in trees().items():
            for node in ast.walk(tree):
                self.assertNotIsInstance(node, NODES, (stem, getattr(node, "lineno", 0)))
                if isinstance(node, ast.Constant):
                    self.assertNotIsInstance(node.value, (float, complex), (stem, node.lineno))
            for node in tree.body:
                self.assertIsInstance(node, (ast.Expr, ast.ImportFrom, ast.Assign, ast.FunctionDef, ast.ClassDef), stem)

    def test_imports(self):
        all_trees = trees()
        ahead = []
        left = dict(all_trees)
        while left:
            ready = [stem for stem in left if all(file in ahead for file, _ in imports(left[stem]))]
            self.assertTrue(ready, f"round: {sorted(left)}")
            ahead += ready
            left = {stem: left[stem] for stem in left if stem not in ready}
        for stem, tree in all_trees.items():
            used = {node.id for node in ast.walk(tree) if isinstance(node, ast.Name)}
            for file, name in imports(tree):
                self.assertIn(name, defined(all_trees[file]), (stem, file))
                self.assertIn(name, used, stem)
            for module, name in all_imports(tree):
                self.assertTrue(module.startswith("makefirst.") or name in LIBRARY[module], stem)
            for node in ast.walk(tree):
                if isinstance(node, ast.ImportFrom):
                    self.assertEqual(node.level, 0, stem)
                    self.assertTrue(all(alias.asname is None for alias in node.names), stem)

    def test_names_of_the_library_are_only_called(self):
        for stem, tree in trees().items():
            known = library(tree)
            called = [node.func for node in ast.walk(tree) if isinstance(node, ast.Call) and not node.keywords]
            for node in ast.walk(tree):
                if isinstance(node, ast.Name) and node.id in known:
                    self.assertIn(node, called, (stem, node.lineno))
            self.assertFalse(set(known) & set(defined(tree)), stem)

    def test_builtins_and_methods(self):
        all_trees = trees()
        own = {function.name for tree in all_trees.values() for function in functions(tree)}
        for stem, tree in all_trees.items():
            for node in ast.walk(tree):
                if isinstance(node, ast.Name) and node.id in KNOWN:
                    self.assertIn(node.id, BUILTINS, (stem, node.lineno))
                if isinstance(node, ast.Call) and isinstance(node.func, ast.Attribute):
                    self.assertIn(node.func.attr, [*METHODS, *own], (stem, node.lineno))

    def test_names(self):
        for stem, tree in trees().items():
            classes = [node.name for node in ast.walk(tree) if isinstance(node, ast.ClassDef)]
            taken = [name for _, name in all_imports(tree)] + classes + KNOWN + BARRED
            for function in functions(tree):
                self.assertFalse(set(bound_names(function)) & set(taken), (stem, function.name))
            names = defined(tree)
            self.assertEqual(len(set(names)), len(names), stem)
            self.assertFalse(set(names) & set(KNOWN), stem)

    def test_sets_stand_only_where_they_may(self):
        for stem, tree in trees().items():
            inside = {child: node for node in ast.walk(tree) for child in ast.iter_child_nodes(node)}
            for node in ast.walk(tree):
                if isinstance(node, (ast.Set, ast.SetComp)) or isinstance(node, ast.Call) and named(node.func) == "set":
                    around = inside[node]
                    self.assertIsInstance(around, (ast.Call, ast.Compare), (stem, node.lineno))
                    if isinstance(around, ast.Call):
                        self.assertIn(named(around.func), ("sorted", "len"), (stem, node.lineno))
                        self.assertEqual(around.keywords, [], (stem, node.lineno))

    def test_lambdas_stand_on_lines_of_their_own(self):
        for stem, tree in trees().items():
            lines = [node.lineno for node in ast.walk(tree) if isinstance(node, ast.Lambda)]
            self.assertEqual(len(set(lines)), len(lines), stem)

    def test_only_own_errors_are_caught(self):
        own = defined(trees()["errors"])
        for stem, tree in trees().items():
            for node in ast.walk(tree):
                if isinstance(node, ast.Try):
                    self.assertEqual(node.finalbody, [], (stem, node.lineno))
                if isinstance(node, ast.ExceptHandler):
                    caught = node.type.elts if isinstance(node.type, ast.Tuple) else [node.type]
                    self.assertLessEqual({named(error) for error in caught}, set(own), (stem, node.lineno))

    def test_strings(self):
        for stem, tree in trees().items():
            for node in ast.walk(tree):
                if isinstance(node, ast.Constant) and isinstance(node.value, str):
                    self.assertNotIn("%", node.value, (stem, node.lineno))

    def test_each_function_says_what_it_tells(self):
        for stem, tree in trees().items():
            self.assertTrue(ast.get_docstring(tree), stem)
            for function in functions(tree):
                if not function.name.startswith("__"):
                    self.assertTrue(ast.get_docstring(function), (stem, function.name))


if __name__ == "__main__":
    unittest.main()
