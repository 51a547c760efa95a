"""The package keeps to the subset of Python it is written in, so far as a look at its files can tell."""

import ast
import builtins
import re
import unittest
import warnings
from pathlib import Path

PACKAGE = Path(__file__).resolve().parent.parent / "stillweb"
FILES = sorted(PACKAGE.glob("*.py"))
TEXTS = {path.name: path.read_text(encoding="utf-8") for path in FILES}
TREES = {name: ast.parse(text) for name, text in TEXTS.items()}

BARRED_WORDS = """type typing typing_extensions enum Enum IntEnum StrEnum Flag IntFlag Generic Protocol ABC ABCMeta
    namedtuple NamedTuple TypedDict TYPE_CHECKING abstractmethod""".split()
BARRED_PIECES = ("dataclass", "overload", "contextmanager")
BARRED_NAMES = """register mro elements open input version_info with_traceback add_note attrgetter breakpoint builtins
    compile copyright credits delattr dir eval exec exit gc getattr globals hasattr help id importlib license locals
    methodcaller os quit setattr vars sys""".split()
BUILTINS = """len range enumerate zip min max sum abs sorted reversed int str bool bytes list tuple dict set frozenset
    isinstance ord repr any all divmod Exception ValueError TypeError KeyError IndexError LookupError
    ZeroDivisionError ArithmeticError OverflowError RuntimeError NotImplementedError AttributeError
    super""".split()
METHODS = """append clear copy count endswith extend find get index insert isalnum isalpha isdigit islower isspace
    isupper items join keys ljust lower lstrip partition pop remove replace reverse rfind rjust rpartition rsplit
    rstrip setdefault split splitlines startswith strip update upper values zfill bit_length add discard sort
    __init__""".split()
NODES_OUT = (ast.Global, ast.AsyncFunctionDef, ast.AsyncFor, ast.AsyncWith, ast.Await, ast.Div, ast.MatMult,
             ast.MatchClass, ast.MatchMapping)


def found(kind):
    """Each node of a kind, with its file's name."""
    return [(name, node) for name, tree in TREES.items() for node in ast.walk(tree) if isinstance(node, kind)]


def told(name, node):
    return f"{name}:{getattr(node, 'lineno', '?')}"


def names_bound():
    """Each name that is bound anywhere, with its place."""
    rows = [(told(name, node), node.id) for name, node in found(ast.Name) if not isinstance(node.ctx, ast.Load)]
    rows += [(told(name, node), node.name) for name, node in found((ast.FunctionDef, ast.ClassDef))]
    rows += [(told(name, node), node.arg) for name, node in found(ast.arg)]
    return rows


class Files(unittest.TestCase):
    def test_only_files_of_the_package(self):
        there = sorted(path.name for path in PACKAGE.iterdir() if path.name != "__pycache__")
        self.assertEqual(there, sorted(TEXTS))
        self.assertIn("__init__.py", TEXTS)
        for name in TEXTS:
            self.assertRegex(name, r"^[a-z0-9_]+\.py$")

    def test_sizes_and_characters(self):
        for name, text in TEXTS.items():
            self.assertRegex(text, r"\A[\n -~]*\Z", name)
            rows = text.split("\n")
            self.assertLessEqual(len(rows), 400, name)
            self.assertLessEqual(max(map(len, rows)), 120, name)

    def test_sizes_of_functions(self):
        for name, node in found(ast.FunctionDef):
            self.assertLessEqual(node.end_lineno - node.lineno + 1, 40, told(name, node))

    def test_no_warnings(self):
        with warnings.catch_warnings():
            warnings.simplefilter("error")
            for name, text in TEXTS.items():
                compile(text, name, "exec")


class Words(unittest.TestCase):
    def test_barred_words(self):
        for name, text in TEXTS.items():
            there = set(re.findall(r"[A-Za-z0-9_]+", text))
            self.assertEqual(there & set(BARRED_WORDS), set(), name)
            for piece in BARRED_PIECES:
                self.assertNotIn(piece, text, name)

    def test_names(self):
        for place, name in names_bound():
            self.assertRegex(name, r"^([A-Za-z][A-Za-z0-9_]*|__init__)$", place)
            self.assertNotIn(name, BARRED_NAMES, place)
            self.assertNotIn(name, dir(builtins), place)

    def test_strings(self):
        for name, node in found(ast.Constant):
            if isinstance(node.value, str):
                self.assertNotIn("\x25", node.value, told(name, node))
            self.assertNotIsInstance(node.value, (float, complex), told(name, node))


class Shapes(unittest.TestCase):
    def test_imports(self):
        self.assertEqual(found(ast.Import), [])
        for name, node in found(ast.ImportFrom):
            home, _, module = (node.module or "").partition(".")
            self.assertEqual((node.level, home), (0, "stillweb"), told(name, node))
            self.assertIn(module + ".py", TEXTS, told(name, node))
            defined = {part.name for part in TREES[module + ".py"].body if hasattr(part, "name")}
            defined |= {part.targets[0].id for part in TREES[module + ".py"].body if isinstance(part, ast.Assign)}
            for alias in node.names:
                self.assertIn(alias.name, defined, told(name, node))

    def test_module_level(self):
        for name, tree in TREES.items():
            for at, node in enumerate(tree.body):
                if at == 0:
                    self.assertIsNotNone(ast.get_docstring(tree), name)
                    continue
                kinds = (ast.ImportFrom, ast.FunctionDef, ast.ClassDef, ast.Assign)
                self.assertIsInstance(node, kinds, told(name, node))

    def test_nodes(self):
        for kind in NODES_OUT:
            self.assertEqual(found(kind), [], kind)
        for name, node in found(ast.Compare):
            for sign, other in zip(node.ops, node.comparators):
                if isinstance(sign, (ast.Is, ast.IsNot)):
                    self.assertIsInstance(other, ast.Constant, told(name, node))
                    self.assertIn(other.value, (None, True, False), told(name, node))

    def test_names_that_are_called(self):
        defined = {node.name for name, node in found((ast.FunctionDef, ast.ClassDef))}
        stored = {inner.id for _, inner in found(ast.Name) if isinstance(inner.ctx, ast.Store)}
        stored |= {inner.arg for _, inner in found(ast.arg)}
        for name, node in found(ast.Call):
            if isinstance(node.func, ast.Name):
                self.assertIn(node.func.id, set(BUILTINS) | defined | stored, told(name, node))
            elif isinstance(node.func, ast.Attribute):
                self.assertIn(node.func.attr, set(METHODS) | defined, told(name, node))

    def test_no_imports_in_a_circle(self):
        needs = {name: {node.module.partition(".")[2] + ".py" for node in tree.body if isinstance(node, ast.ImportFrom)}
                 for name, tree in TREES.items()}
        while needs:
            ready = [name for name in needs if not needs[name] & set(needs)]
            self.assertNotEqual(ready, [], needs)
            for name in ready:
                del needs[name]

    def test_each_import_is_used(self):
        for name, tree in TREES.items():
            used = {node.id for node in ast.walk(tree) if isinstance(node, ast.Name)}
            for node in tree.body:
                if isinstance(node, ast.ImportFrom):
                    self.assertEqual({alias.name for alias in node.names} - used, set(), told(name, node))

    def test_no_local_name_hides_an_import_a_function_or_a_class(self):
        for name, tree in TREES.items():
            taken = {alias.name for node in tree.body if isinstance(node, ast.ImportFrom) for alias in node.names}
            taken |= {node.name for node in tree.body if isinstance(node, (ast.ClassDef, ast.FunctionDef))}
            for function in (node for node in ast.walk(tree) if isinstance(node, ast.FunctionDef)):
                for node in ast.walk(function):
                    bound = node.arg if isinstance(node, ast.arg) else None
                    if isinstance(node, ast.Name) and not isinstance(node.ctx, ast.Load):
                        bound = node.id
                    self.assertNotIn(bound, taken, told(name, node))

    def test_errors_are_made_where_they_are_raised(self):
        for name, node in found(ast.Raise):
            self.assertIsInstance(node.exc, ast.Call, told(name, node))
            self.assertIsInstance(node.exc.func, ast.Name, told(name, node))

    def test_what_is_iterated_at_once_is_not_stored(self):
        at_once = ("zip", "enumerate", "reversed", "range")
        for name, node in found((ast.Assign, ast.Return)):
            if isinstance(node.value, ast.Call) and isinstance(node.value.func, ast.Name):
                self.assertNotIn(node.value.func.id, at_once, told(name, node))

    def test_no_tables_at_module_level_within_others(self):
        for name, tree in TREES.items():
            for node in tree.body:
                if isinstance(node, ast.Assign):
                    inner = [part for part in ast.walk(node.value) if isinstance(part, (ast.List, ast.Dict, ast.Set))]
                    self.assertIn(inner, ([], [node.value]), told(name, node))

    def test_no_name_twice_at_module_level(self):
        for name, tree in TREES.items():
            bound = [part.name for part in tree.body if hasattr(part, "name")]
            bound += [part.targets[0].id for part in tree.body if isinstance(part, ast.Assign)]
            bound += [alias.name for part in tree.body if isinstance(part, ast.ImportFrom) for alias in part.names]
            self.assertEqual(len(bound), len(set(bound)), name)


if __name__ == "__main__":
    unittest.main()
