"""The rules of the language that can be read off the files of the package."""

import ast
import builtins
import pathlib
import re
import unittest
import warnings

PACKAGE = pathlib.Path(__file__).resolve().parent.parent / "rightatlast"
BUILTINS = set("""len range enumerate zip min max sum abs sorted reversed int str bool list tuple dict set isinstance
                  ord repr any all divmod iter super classmethod staticmethod ValueError TypeError KeyError IndexError
                  NotImplementedError""".split())
DUNDERS = set("""__init__ __eq__ __repr__ __str__ __len__ __iter__ __add__ __and__ __or__ __rshift__ __invert__
                 __contains__""".split())
METHODS = set("""append clear copy count endswith extend find get index insert isalnum isalpha isdigit islower isspace
                 isupper items join keys ljust lower lstrip partition pop remove replace reverse rfind rjust rpartition
                 rsplit rstrip setdefault split splitlines startswith strip update upper values zfill
                 bit_length""".split())
NO_ATTRIBUTES = set("""items keys values pop update append clear extend insert remove reverse setdefault sort args encode
                       decode hex fromhex format format_map mro""".split())
NO_NAMES = set("""register mro elements open input law version_info with_traceback add_note attrgetter breakpoint
                  compile copyright credits delattr dir eval exec exit gc getattr globals hasattr help id importlib
                  license locals methodcaller os quit setattr type vars sys""".split())
NO_WORDS = re.compile(r"\b(type|typing|enum|Enum|Flag|Generic|Protocol|ABC|namedtuple|NamedTuple)\b|dataclass|_wall")
NO_STATEMENTS = (ast.AsyncFunctionDef, ast.AsyncFor, ast.AsyncWith, ast.Global, ast.Nonlocal, ast.With, ast.Match,
                 ast.AnnAssign, ast.GeneratorExp, ast.NamedExpr, ast.Set, ast.SetComp, ast.Lambda, ast.Await, ast.Div)
TAKES_A_LITERAL = (ast.Constant, ast.Tuple, ast.List, ast.Dict)
# Python binds `_` where a test has shown a value, as doctest does.
OF_PYTHON = set(dir(builtins)) - {"_"}
PATHS = sorted(PACKAGE.glob("*.py"))
TREES = {path.stem: ast.parse(path.read_text(encoding="utf-8")) for path in PATHS}


def functions_of(tree):
    """All functions and methods of a file."""
    return [node for node in ast.walk(tree) if isinstance(node, ast.FunctionDef)]


def classes_of(tree):
    """All classes of a file."""
    return [node for node in tree.body if isinstance(node, ast.ClassDef)]


def bound_in(function):
    """The names that a function binds: its parameters and what it assigns."""
    taken = function.args
    names = [one.arg for one in taken.posonlyargs + taken.args + taken.kwonlyargs + [taken.vararg, taken.kwarg] if one]
    stored = [node.id for node in ast.walk(function) if isinstance(node, ast.Name) and isinstance(node.ctx, ast.Store)]
    caught = [node.name for node in ast.walk(function) if isinstance(node, ast.ExceptHandler) and node.name]
    return set(names + stored + caught)


def bound_at_the_top(tree):
    """The list of the names that a file binds, imports included."""
    names = []
    for node in tree.body:
        if isinstance(node, ast.ImportFrom):
            names.extend(alias.name for alias in node.names)
        elif isinstance(node, (ast.FunctionDef, ast.ClassDef)):
            names.append(node.name)
        elif isinstance(node, ast.Assign):
            names.append(node.targets[0].id)
    return names


def is_class_method(function):
    """True if a function has a decorator that makes it a class method or a static method."""
    return len(function.decorator_list) > 0


def assigned_attributes(node):
    """The names of the attributes that are assigned in a part of a file."""
    return {one.attr for one in ast.walk(node) if isinstance(one, ast.Attribute) and isinstance(one.ctx, ast.Store)}


class FilesTest(unittest.TestCase):

    def test_the_folder(self):
        others = [path.name for path in PACKAGE.iterdir() if path.suffix != ".py" and path.name != "__pycache__"]
        self.assertEqual(others, [])
        self.assertIn("__init__", TREES)
        self.assertLessEqual(len(PATHS), 100)
        for name in TREES:
            self.assertRegex(name, r"\A[a-z][a-z0-9_]*\Z|\A__init__\Z")
            self.assertFalse(name.startswith(("law_", "test")) or name in OF_PYTHON, name)

    def test_sizes_and_characters(self):
        for path in PATHS:
            data = path.read_bytes()
            lines = data.decode("ascii").split("\n")
            self.assertLessEqual(len(lines) - 1, 399, path.name)
            self.assertTrue(data.endswith(b"\n"), path.name)
            self.assertTrue(all(byte == 10 or 32 <= byte <= 126 for byte in data), path.name)
            for line in lines:
                self.assertLessEqual(len(line), 120, path.name)
                self.assertEqual(line, line.rstrip(), path.name)

    def test_python_gives_no_warning(self):
        with warnings.catch_warnings():
            warnings.simplefilter("error")
            for path in PATHS:
                compile(path.read_text(encoding="ascii"), path.name, "exec")

    def test_functions_are_small(self):
        for name, tree in TREES.items():
            for function in functions_of(tree):
                self.assertLessEqual(function.end_lineno - function.lineno + 1, 40, f"{name}.{function.name}")


class ModulesTest(unittest.TestCase):

    def test_what_stands_at_the_top(self):
        for name, tree in TREES.items():
            self.assertIsNotNone(ast.get_docstring(tree), name)
            for node in tree.body[1:]:
                self.assertIsInstance(node, (ast.ImportFrom, ast.FunctionDef, ast.ClassDef, ast.Assign), name)
                if isinstance(node, ast.Assign):
                    self.assertEqual(len(node.targets), 1, name)
                    self.assertIsInstance(node.value, TAKES_A_LITERAL, name)
                    ast.literal_eval(node.value)

    def test_each_name_is_bound_once(self):
        for name, tree in TREES.items():
            names = bound_at_the_top(tree)
            self.assertEqual(len(names), len(set(names)), name)
            classes_and_imports = {one.name for one in classes_of(tree)}
            classes_and_imports |= {a.name for n in tree.body if isinstance(n, ast.ImportFrom) for a in n.names}
            for function in functions_of(tree):
                self.assertEqual(bound_in(function) & classes_and_imports, set(), f"{name}.{function.name}")

    def test_imports_name_the_file_that_defines(self):
        for name, tree in TREES.items():
            for node in ast.walk(tree):
                self.assertNotIsInstance(node, ast.Import, name)
                if isinstance(node, ast.ImportFrom):
                    self.assertIn(node, tree.body, name)
                    package, _, module = node.module.partition(".")
                    self.assertEqual((package, node.level), ("rightatlast", 0), name)
                    own = {one for one in bound_at_the_top(TREES[module])}
                    own -= {a.name for n in TREES[module].body if isinstance(n, ast.ImportFrom) for a in n.names}
                    for alias in node.names:
                        self.assertIn(alias.name, own, name)
                        self.assertIsNone(alias.asname, name)

    def test_every_import_is_used(self):
        for name, tree in TREES.items():
            used = {node.id for node in ast.walk(tree) if isinstance(node, ast.Name)}
            for node in tree.body:
                if isinstance(node, ast.ImportFrom):
                    for alias in node.names:
                        self.assertIn(alias.name, used, name)

    def test_no_circles(self):
        needs = {name: {node.module.partition(".")[2] for node in tree.body if isinstance(node, ast.ImportFrom)}
                 for name, tree in TREES.items()}
        while needs:
            free = [name for name in needs if not needs[name]]
            self.assertNotEqual(free, [], f"a circle among {sorted(needs)}")
            needs = {name: needs[name] - set(free) for name in needs if name not in free}


class NamesTest(unittest.TestCase):

    def test_names(self):
        for name, tree in TREES.items():
            found = {node.name for node in ast.walk(tree) if isinstance(node, (ast.FunctionDef, ast.ClassDef))}
            for function in functions_of(tree):
                found |= bound_in(function)
            found |= set(bound_at_the_top(tree))
            for word in found:
                self.assertRegex(word, r"\A_?[A-Za-z][A-Za-z0-9_]*\Z|\A_\Z|\A__[a-z]+__\Z", name)
                self.assertFalse(word in NO_NAMES or word in OF_PYTHON, f"{name}: {word}")

    def test_only_builtins_of_the_list(self):
        for name, tree in TREES.items():
            for node in ast.walk(tree):
                if isinstance(node, ast.Name) and node.id in OF_PYTHON:
                    self.assertIn(node.id, BUILTINS, name)

    def test_attributes(self):
        methods = {one.name for tree in TREES.values() for one in functions_of(tree)}
        assigned = set().union(*[assigned_attributes(tree) for tree in TREES.values()])
        self.assertEqual(assigned & NO_ATTRIBUTES, set())
        for name, tree in TREES.items():
            for node in ast.walk(tree):
                if isinstance(node, ast.Call) and isinstance(node.func, ast.Attribute):
                    self.assertTrue(node.func.attr in methods or node.func.attr in METHODS, f"{name}: {node.func.attr}")
                elif isinstance(node, ast.Attribute) and isinstance(node.ctx, ast.Load):
                    self.assertIn(node.attr, assigned | methods | METHODS, name)

    def test_no_name_is_a_method_and_an_attribute(self):
        assigned = set().union(*[assigned_attributes(tree) for tree in TREES.values()])
        plain = {f.name for tree in TREES.values() for c in classes_of(tree) for f in functions_of(c)
                 if not is_class_method(f)}
        bound = {f.name for tree in TREES.values() for c in classes_of(tree) for f in functions_of(c)
                 if is_class_method(f)}
        self.assertEqual((plain | bound) & assigned, set())
        self.assertEqual(bound & (plain | METHODS), set())


class CodeTest(unittest.TestCase):

    def test_statements_and_expressions(self):
        for name, tree in TREES.items():
            for node in ast.walk(tree):
                self.assertNotIsInstance(node, NO_STATEMENTS, name)
                if isinstance(node, ast.Compare):
                    for sign, right in zip(node.ops, node.comparators):
                        if isinstance(sign, (ast.Is, ast.IsNot)):
                            self.assertTrue(isinstance(right, ast.Constant) and right.value in (None, True, False))

    def test_decorators_and_annotations(self):
        for name, tree in TREES.items():
            for function in functions_of(tree):
                marks = [mark.id for mark in function.decorator_list]
                self.assertIn(marks, ([], ["classmethod"], ["staticmethod"]), f"{name}.{function.name}")
                self.assertIsNone(function.returns, f"{name}.{function.name}")
                if function.name.startswith("__"):
                    self.assertIn(function.name, DUNDERS, name)
                else:
                    self.assertIsNotNone(ast.get_docstring(function), f"{name}.{function.name}")

    def test_errors_are_raised_and_caught_by_name(self):
        own = {one.name for one in classes_of(TREES["errors"])}
        for name, tree in TREES.items():
            for node in ast.walk(tree):
                if isinstance(node, ast.ExceptHandler):
                    self.assertIn(node.type.id, own | {"KeyError"}, name)
                if isinstance(node, ast.Raise) and node.exc is not None:
                    self.assertIn(node.exc.func.id, own | {"TypeError"}, name)
                    self.assertEqual(node.exc.keywords, [], name)

    def test_strings(self):
        for name, tree in TREES.items():
            docstrings = {ast.get_docstring(node, clean=False) for node in ast.walk(tree)
                          if isinstance(node, (ast.Module, ast.ClassDef, ast.FunctionDef))}
            for node in ast.walk(tree):
                if isinstance(node, ast.Constant):
                    self.assertNotIsInstance(node.value, (float, complex, bytes), name)
                    if isinstance(node.value, str) and node.value not in docstrings:
                        self.assertNotIn("%", node.value, name)
                        self.assertIsNone(NO_WORDS.search(node.value), name)
                        self.assertFalse(node.value.startswith("__"), name)

    def test_texts_and_lengths(self):
        for tree in TREES.values():
            for function in functions_of(tree):
                for node in ast.walk(function):
                    if isinstance(node, ast.Return) and function.name == "__str__":
                        self.assertTrue(isinstance(node.value, ast.JoinedStr) or node.value.func.id == "str")
                    if isinstance(node, ast.Return) and function.name == "__len__":
                        self.assertEqual(node.value.func.id, "len")


if __name__ == "__main__":
    unittest.main()
