"""The package's own files keep to the part of Python that is agreed for them.

Looks for what a walk over the syntax can see of ../shared/LANGUAGE.md;
the rule's number stands at each check.
"""

import ast
import builtins
import pathlib
import re
import unittest

PACKAGE = pathlib.Path(__file__).resolve().parent.parent / "lasting"

ALLOWED_OWN_NAMES = set(
    "len range enumerate zip min max sum abs sorted reversed int str bool list tuple dict set frozenset isinstance "
    "ord repr any all divmod Exception ValueError TypeError KeyError IndexError LookupError ZeroDivisionError "
    "ArithmeticError OverflowError RuntimeError NotImplementedError AttributeError StopIteration".split()
)
ALLOWED_METHODS_OF_PYTHON = set(
    "append clear copy count endswith extend find get index insert isalnum isalpha isdigit islower isspace isupper "
    "items join keys ljust lower lstrip partition pop remove replace reverse rfind rjust rpartition rsplit rstrip "
    "setdefault split splitlines startswith strip update upper values zfill bit_length".split()
)
FREE_VALUES = set("count index title find get join lower upper split strip copy add discard".split())
WORDS_THAT_STAND_NOWHERE = re.compile(
    r"\b(type|typing|typing_extensions|enum|Enum|IntEnum|StrEnum|Flag|IntFlag|Generic|Protocol|ABC|ABCMeta|"
    r"namedtuple|NamedTuple|TypedDict|TYPE_CHECKING|abstractmethod)\b|dataclass|overload|contextmanager"
)
NODES_LEFT_OUT = (
    ast.With, ast.Match, ast.Delete, ast.Global, ast.Nonlocal, ast.Assert, ast.Yield, ast.YieldFrom, ast.Await,
    ast.AsyncFunctionDef, ast.AsyncFor, ast.AsyncWith, ast.SetComp, ast.DictComp, ast.GeneratorExp, ast.NamedExpr,
    ast.Starred, ast.Div, ast.Import, ast.AnnAssign,
)


def python_methods():
    found = set()
    for value in ("", 0, [], (), {}, set(), b""):
        found |= set(dir(value))
    return found


def sources():
    return sorted(PACKAGE.rglob("*.py"))


def bound_names(tree):
    for node in ast.walk(tree):
        if isinstance(node, (ast.FunctionDef, ast.ClassDef)):
            yield node.name, node
        elif isinstance(node, ast.arg):
            yield node.arg, node
        elif isinstance(node, ast.Name) and isinstance(node.ctx, ast.Store):
            yield node.id, node
        elif isinstance(node, ast.alias):
            yield node.asname or node.name, node


class Language(unittest.TestCase):
    def each(self):
        for path in sources():
            text = path.read_text(encoding="utf-8")
            yield path, text, ast.parse(text)

    def test_files(self):  # L1, L14
        found = [path for path in PACKAGE.rglob("*") if path.name != "__pycache__" and path.suffix != ".pyc"]
        self.assertEqual(sorted(found), sources())
        for path in sources():
            self.assertRegex(path.name, r"^([a-z][a-z0-9_]*|__init__)\.py$")
            self.assertNotIn(path.stem, dir(builtins))
            self.assertFalse(path.stem.startswith("test"), path)

    def test_signs_and_sizes(self):  # L10, L14, L17
        for path, text, tree in self.each():
            self.assertRegex(text, r"\A[ -~\n]*\Z", path)
            self.assertLessEqual(len(text.splitlines()), 400, path)
            for line in text.splitlines():
                self.assertLessEqual(len(line), 120, (path, line))
                self.assertNotRegex(line, WORDS_THAT_STAND_NOWHERE, path)
            for node in ast.walk(tree):
                if isinstance(node, ast.FunctionDef):
                    self.assertLessEqual(node.end_lineno - node.lineno + 1, 40, (path, node.name))

    def test_statements_and_expressions(self):  # L4, L6, L7
        for path, text, tree in self.each():
            for node in ast.walk(tree):
                where = (path, getattr(node, "lineno", 0))
                self.assertNotIsInstance(node, NODES_LEFT_OUT, where)
                if isinstance(node, (ast.For, ast.While)):
                    self.assertEqual(node.orelse, [], where)
                if isinstance(node, ast.Assign):
                    self.assertEqual(len(node.targets), 1, where)
                if isinstance(node, ast.ListComp):
                    self.assertEqual(len(node.generators), 1, where)
                    self.assertLessEqual(len(node.generators[0].ifs), 1, where)
                if isinstance(node, (ast.FunctionDef, ast.ClassDef)):
                    self.assertEqual(node.decorator_list, [], where)
                if isinstance(node, ast.Constant):
                    self.assertNotIsInstance(node.value, (float, bytes, complex), where)

    def test_the_top_of_a_file(self):  # L3, L15
        for path, text, tree in self.each():
            bound = []
            for place, node in enumerate(tree.body):
                docstring = place == 0 and isinstance(node, ast.Expr)
                kinds = (ast.ImportFrom, ast.FunctionDef, ast.ClassDef, ast.Assign)
                self.assertTrue(docstring or isinstance(node, kinds), (path, node.lineno))
                if isinstance(node, ast.Assign):
                    bound.append(node.targets[0].id)
                elif isinstance(node, ast.ImportFrom):
                    bound += [alias.name for alias in node.names]
                elif not docstring:
                    bound.append(node.name)
            self.assertEqual(len(bound), len(set(bound)), path)

    def test_imports(self):  # L2, L16
        for path, text, tree in self.each():
            for node in ast.walk(tree):
                if isinstance(node, ast.ImportFrom):
                    self.assertRegex(node.module, r"^lasting\.[a-z_]+$", path)
                    self.assertEqual(node.level, 0, path)
                    source = ast.parse((PACKAGE / (node.module.split(".")[1] + ".py")).read_text())
                    defined = [name for name, at in bound_names(ast.Module(source.body, [])) if not isinstance(at, ast.alias)]
                    for alias in node.names:
                        self.assertIn(alias.name, defined, path)

    def test_names(self):  # L8, L12, L15
        for path, text, tree in self.each():
            bound = list(bound_names(tree))
            for name, node in bound:
                where = (path, getattr(node, "lineno", 0), name)
                self.assertRegex(name, r"^([A-Za-z][A-Za-z0-9_]*|__init__)$", where)
                self.assertNotIn(name, dir(builtins), where)
            known = {name for name, node in bound}
            for node in ast.walk(tree):
                if isinstance(node, ast.Name) and node.id not in known:
                    self.assertIn(node.id, ALLOWED_OWN_NAMES, (path, node.lineno))

    def test_methods(self):  # L25, L26
        for path, text, tree in self.each():
            for node in ast.walk(tree):
                if isinstance(node, ast.Attribute) and node.attr in python_methods():
                    self.assertIn(node.attr, ALLOWED_METHODS_OF_PYTHON | FREE_VALUES, (path, node.lineno))


if __name__ == "__main__":
    unittest.main()
