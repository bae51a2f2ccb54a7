"""The package's own files keep to the part of Python that is agreed for them.

Looks for what a walk over the syntax can see of ../shared/LANGUAGE.md;
the rule's number stands at each check.
"""

import ast
import builtins
import pathlib
import re
import unittest

PACKAGE = pathlib.Path(__file__).resolve().parent.parent / "lasting"

WALKED_AT_ONCE = set("zip enumerate reversed range items keys values".split())
WALKERS = set("list tuple dict sorted sum any all enumerate zip min max".split())
CHANGERS = set("append clear extend insert pop remove reverse setdefault update".split())
ALLOWED_OWN_NAMES = set(
    "len range enumerate zip min max sum abs sorted reversed int str bool list tuple dict set frozenset isinstance "
    "ord repr any all divmod Exception ValueError TypeError KeyError IndexError LookupError ZeroDivisionError "
    "ArithmeticError OverflowError RuntimeError NotImplementedError AttributeError StopIteration".split()
)
ALLOWED_METHODS_OF_PYTHON = set(
    "append clear copy count endswith extend find get index insert isalnum isalpha isdigit islower isspace isupper "
    "items join keys ljust lower lstrip partition pop remove replace reverse rfind rjust rpartition rsplit rstrip "
    "setdefault split splitlines startswith strip update upper values zfill bit_length".split()
)
FREE_VALUES = set("count index title find get join lower upper split strip copy add discard".split())
WORDS_THAT_STAND_NOWHERE = re.compile(
    r"\b(type|typing|typing_extensions|enum|Enum|IntEnum|StrEnum|Flag|IntFlag|Generic|Protocol|ABC|ABCMeta|"
    r"namedtuple|NamedTuple|TypedDict|TYPE_CHECKING|abstractmethod)\b|dataclass|overload|contextmanager"
)
NODES_LEFT_OUT = (
    ast.With, ast.Match, ast.Delete, ast.Global, ast.Nonlocal, ast.Assert, ast.Yield, ast.YieldFrom, ast.Await,
    ast.AsyncFunctionDef, ast.AsyncFor, ast.AsyncWith, ast.SetComp, ast.DictComp, ast.GeneratorExp, ast.NamedExpr,
    ast.Starred, ast.Div, ast.Import, ast.AnnAssign,
)


def python_methods():
    found = set()
    for value in ("", 0, [], (), {}, set(), b""):
        found |= set(dir(value))
    return found


def sources():
    return sorted(PACKAGE.rglob("*.py"))


def with_parents(tree):
    """Each node with the node in which it stands."""
    for parent in ast.walk(tree):
        for node in ast.iter_child_nodes(parent):
            yield node, parent


def called_name(node):
    if not isinstance(node, ast.Call):
        return None
    return node.func.id if isinstance(node.func, ast.Name) else getattr(node.func, "attr", None)


def bound_names(tree):
    for node in ast.walk(tree):
        if isinstance(node, (ast.FunctionDef, ast.ClassDef)):
            yield node.name, node
        elif isinstance(node, ast.arg):
            yield node.arg, node
        elif isinstance(node, ast.Name) and isinstance(node.ctx, ast.Store):
            yield node.id, node
        elif isinstance(node, ast.alias):
            yield node.asname or node.name, node


class Language(unittest.TestCase):
    def each(self):
        for path in sources():
            text = path.read_text(encoding="utf-8")
            yield path, text, ast.parse(text)

    def test_files(self):  # L1, L14
        found = [path for path in PACKAGE.rglob("*") if path.name != "__pycache__" and path.suffix != ".pyc"]
        self.assertEqual(sorted(found), sources())
        for path in sources():
            self.assertRegex(path.name, r"^([a-z][a-z0-9_]*|__init__)\.py$")
            self.assertNotIn(path.stem, dir(builtins))
            self.assertFalse(path.stem.startswith("test"), path)

    def test_signs_and_sizes(self):  # L10, L14, L17
        for path, text, tree in self.each():
            self.assertRegex(text, r"\A[ -~\n]*\Z", path)
            self.assertLessEqual(len(text.splitlines()), 400, path)
            for line in text.splitlines():
                self.assertLessEqual(len(line), 120, (path, line))
                self.assertNotRegex(line, WORDS_THAT_STAND_NOWHERE, path)
            for node in ast.walk(tree):
                if isinstance(node, ast.FunctionDef):
                    self.assertLessEqual(node.end_lineno - node.lineno + 1, 40, (path, node.name))

    def test_statements_and_expressions(self):  # L4, L6, L7
        for path, text, tree in self.each():
            for node in ast.walk(tree):
                where = (path, getattr(node, "lineno", 0))
                self.assertNotIsInstance(node, NODES_LEFT_OUT, where)
                if isinstance(node, (ast.For, ast.While)):
                    self.assertEqual(node.orelse, [], where)
                if isinstance(node, ast.Assign):
                    self.assertEqual(len(node.targets), 1, where)
                if isinstance(node, ast.ListComp):
                    self.assertEqual(len(node.generators), 1, where)
                    self.assertLessEqual(len(node.generators[0].ifs), 1, where)
                if isinstance(node, (ast.FunctionDef, ast.ClassDef)):
                    self.assertEqual(node.decorator_list, [], where)
                if isinstance(node, ast.Constant):
                    self.assertNotIsInstance(node.value, (float, bytes, complex), where)

    def test_the_top_of_a_file(self):  # L3, L15
        for path, text, tree in self.each():
            bound = []
            for place, node in enumerate(tree.body):
                docstring = place == 0 and isinstance(node, ast.Expr)
                kinds = (ast.ImportFrom, ast.FunctionDef, ast.ClassDef, ast.Assign)
                self.assertTrue(docstring or isinstance(node, kinds), (path, node.lineno))
                if isinstance(node, ast.Assign):
                    bound.append(node.targets[0].id)
                elif isinstance(node, ast.ImportFrom):
                    bound += [alias.name for alias in node.names]
                elif not docstring:
                    bound.append(node.name)
            self.assertEqual(len(bound), len(set(bound)), path)

    def test_imports(self):  # L2, L16
        for path, text, tree in self.each():
            for node in ast.walk(tree):
                if isinstance(node, ast.ImportFrom):
                    self.assertRegex(node.module, r"^lasting\.[a-z_]+$", path)
                    self.assertEqual(node.level, 0, path)
                    source = ast.parse((PACKAGE / (node.module.split(".")[1] + ".py")).read_text())
                    defined = [name for name, at in bound_names(ast.Module(source.body, [])) if not isinstance(at, ast.alias)]
                    for alias in node.names:
                        self.assertIn(alias.name, defined, path)

    def test_names(self):  # L8, L12, L15
        for path, text, tree in self.each():
            bound = list(bound_names(tree))
            for name, node in bound:
                where = (path, getattr(node, "lineno", 0), name)
                self.assertRegex(name, r"^([A-Za-z][A-Za-z0-9_]*|__init__)$", where)
                self.assertNotIn(name, dir(builtins), where)
            known = {name for name, node in bound}
            for node in ast.walk(tree):
                if isinstance(node, ast.Name) and node.id not in known:
                    self.assertIn(node.id, ALLOWED_OWN_NAMES, (path, node.lineno))

    def test_methods(self):  # L25, L26
        for path, text, tree in self.each():
            for node in ast.walk(tree):
                if isinstance(node, ast.Attribute) and node.attr in python_methods():
                    self.assertIn(node.attr, ALLOWED_METHODS_OF_PYTHON | FREE_VALUES, (path, node.lineno))

    def test_functions_and_classes(self):  # L4, L5, L18, L21
        methods, values = {}, {}
        for path, text, tree in self.each():
            for node in ast.walk(tree):
                where = (path, getattr(node, "lineno", 0))
                if isinstance(node, ast.arguments):
                    self.assertEqual((node.vararg, node.kwarg, node.kwonlyargs, node.posonlyargs), (None, None, [], []), where)
                if isinstance(node, ast.arg):
                    self.assertIsNone(node.annotation, where)
                if isinstance(node, ast.FunctionDef):
                    self.assertIsNone(node.returns, where)
                if isinstance(node, ast.ClassDef):
                    self.assertIn(node, tree.body, where)
                    self.assertEqual(node.bases + node.keywords, [], where)
                    inner = [one for one in node.body if not isinstance(one, ast.Expr)]
                    names = [one.name for one in inner if isinstance(one, ast.FunctionDef)]
                    self.assertEqual(len(inner), len(set(names)), where)
                    methods.update({name: where for name in names})
                if isinstance(node, ast.Attribute) and isinstance(node.ctx, ast.Store):
                    self.assertIsInstance(node.value, ast.Name, where)
                    values[node.attr] = where
        self.assertEqual(set(methods) & set(values), set(), "a method here, a value there")

    def test_names_of_the_top_stay_what_they_are(self):  # L15
        for path, text, tree in self.each():
            tops = {node.targets[0].id: node.value for node in tree.body if isinstance(node, ast.Assign)}
            for name, value in tops.items():
                held = [one for one in ast.walk(value) if one != value]
                self.assertFalse([one for one in held if isinstance(one, (ast.List, ast.Dict, ast.Call))], (path, name))
            taken = {alias.name for node in tree.body if isinstance(node, ast.ImportFrom) for alias in node.names}
            taken |= {node.name for node in tree.body if isinstance(node, (ast.ClassDef, ast.FunctionDef))} | set(tops)
            for node in ast.walk(tree):
                if isinstance(node, ast.FunctionDef):
                    local = {name for name, at in bound_names(ast.Module(node.body, []))} | {arg.arg for arg in node.args.args}
                    self.assertEqual(local & taken, set(), (path, node.name))
                if called_name(node) in CHANGERS and isinstance(node.func, ast.Attribute):
                    self.assertNotIn(getattr(node.func.value, "id", None), tops, (path, node.lineno))

    def test_files_do_not_draw_from_one_another(self):  # L16
        drawn = {}
        for path, text, tree in self.each():
            drawn[path.stem] = {node.module.split(".")[1] for node in tree.body if isinstance(node, ast.ImportFrom)}
        while drawn:
            last = [name for name, others in drawn.items() if not others & set(drawn)]
            self.assertNotEqual(last, [], drawn)
            drawn = {name: others for name, others in drawn.items() if name not in last}

    def test_comparisons_sets_and_walks(self):  # L20, L23, L24
        for path, text, tree in self.each():
            for node, parent in with_parents(tree):
                where = (path, getattr(node, "lineno", 0))
                if isinstance(node, ast.Compare) and any(isinstance(one, (ast.Is, ast.IsNot)) for one in node.ops):
                    self.assertTrue(all(isinstance(one, ast.Constant) for one in node.comparators), where)
                self.assertNotIsInstance(node, ast.Set, where)
                if called_name(node) == "set":
                    self.assertTrue(isinstance(parent, ast.Compare) or called_name(parent) in ("sorted", "len"), where)
                if called_name(node) in WALKED_AT_ONCE:
                    walked = isinstance(parent, (ast.For, ast.comprehension)) and parent.iter == node
                    self.assertTrue(walked or called_name(parent) in WALKERS and parent.args[0] == node, where)

    def test_what_a_loop_walks_is_not_changed_in_it(self):  # L23
        for path, text, tree in self.each():
            for loop in ast.walk(tree):
                if isinstance(loop, ast.For):
                    walked = {ast.dump(one) for one in ast.walk(loop.iter) if isinstance(one, (ast.Name, ast.Attribute))}
                    for node in ast.walk(ast.Module(loop.body, [])):
                        if called_name(node) in CHANGERS and isinstance(node.func, ast.Attribute):
                            self.assertNotIn(ast.dump(node.func.value), walked, (path, node.lineno))

    def test_numbers_texts_and_errors(self):  # L6, L19, L27
        for path, text, tree in self.each():
            for node in ast.walk(tree):
                where = (path, getattr(node, "lineno", 0))
                self.assertNotIsInstance(node, (ast.Try, ast.Raise, ast.Pow, ast.JoinedStr), where)
                if isinstance(node, ast.Constant) and isinstance(node.value, str):
                    self.assertNotIn("%", node.value, where)


if __name__ == "__main__":
    unittest.main()
