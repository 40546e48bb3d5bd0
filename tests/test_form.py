"""The rules of ../shared/LANGUAGE.md that a walk over the program's text can see."""

import ast
import builtins
import pathlib
import re
import unittest

PACKAGE = pathlib.Path(__file__).resolve().parent.parent / "seenbacks"
FILES = sorted(path for path in PACKAGE.iterdir() if path.name != "__pycache__")

# L17; the last three within longer words too.
WORDS_NOWHERE = re.compile(
    r"\b(type|typing|typing_extensions|enum|Enum|IntEnum|StrEnum|Flag|IntFlag|Generic|Protocol|ABC|ABCMeta"
    r"|namedtuple|NamedTuple|TypedDict|TYPE_CHECKING|abstractmethod)\b|dataclass|overload|contextmanager")
NAMES_NOWHERE = {"register", "mro", "elements", "open", "input", "version_info", "with_traceback", "add_note",
                 "format", "format_map"}
OWN_OF_PYTHON = set(
    "len range enumerate zip min max sum abs sorted reversed int str bool list tuple dict set frozenset isinstance "
    "ord repr any all divmod Exception ValueError KeyError IndexError LookupError ZeroDivisionError "
    "ArithmeticError OverflowError RuntimeError NotImplementedError StopIteration".split())
METHODS_OF_PYTHON = set(
    "append clear copy count endswith extend find get index insert isalnum isalpha isdigit islower isspace isupper "
    "items join keys ljust lower lstrip partition pop remove replace reverse rfind rjust rpartition rsplit rstrip "
    "setdefault split splitlines startswith strip update upper values zfill bit_length".split())
FORBIDDEN_NODES = (
    ast.With, ast.Match, ast.Delete, ast.Global, ast.Nonlocal, ast.Assert, ast.Yield, ast.YieldFrom, ast.Await,
    ast.AsyncFunctionDef, ast.AsyncFor, ast.AsyncWith, ast.SetComp, ast.DictComp, ast.GeneratorExp, ast.NamedExpr,
    ast.Starred, ast.Div, ast.Import, ast.AnnAssign, ast.Set)


def bound_names(tree):
    """Each name that is given a meaning somewhere in a file."""
    for node in ast.walk(tree):
        if isinstance(node, (ast.FunctionDef, ast.ClassDef)):
            yield node.name
        elif isinstance(node, ast.arg):
            yield node.arg
        elif isinstance(node, (ast.Name, ast.Attribute)) and isinstance(node.ctx, ast.Store):
            yield node.id if isinstance(node, ast.Name) else node.attr
        elif isinstance(node, ast.ImportFrom):
            for alias in node.names:
                yield alias.asname or alias.name


class Form(unittest.TestCase):
    def setUp(self):
        self.texts = {path.name: path.read_text(encoding="utf-8") for path in FILES}
        self.trees = {name: ast.parse(text) for name, text in self.texts.items()}

    def nodes(self):
        for name, tree in self.trees.items():
            for node in ast.walk(tree):
                yield f"{name}:{getattr(node, 'lineno', 0)}", node

    def test_files(self):
        self.assertIn("__init__.py", self.texts)
        self.assertNotIn("__main__.py", self.texts)
        for name in self.texts:
            self.assertRegex(name, r"^[a-z0-9_]+\.py$")
            self.assertNotIn(name[:-3], dir(builtins))

    def test_sizes_and_signs(self):
        for name, text in self.texts.items():
            self.assertRegex(text, r"\A[ -~\n]*\Z", name)
            self.assertLessEqual(text.count("\n"), 400, name)
            self.assertLessEqual(max(len(line) for line in text.split("\n")), 120, name)
            self.assertIsNone(WORDS_NOWHERE.search(text), name)
        for where, node in self.nodes():
            if isinstance(node, ast.FunctionDef):
                self.assertLessEqual(node.end_lineno - node.lineno + 1, 40, where)

    def test_statements_and_expressions(self):
        for where, node in self.nodes():
            self.assertNotIsInstance(node, FORBIDDEN_NODES, where)
            if isinstance(node, (ast.For, ast.While)):
                self.assertEqual(node.orelse, [], where)
            if isinstance(node, ast.Assign):
                self.assertEqual(len(node.targets), 1, where)
                self.assertNotIsInstance(node.targets[0], (ast.Tuple, ast.List), where)
            if isinstance(node, ast.Constant):
                self.assertNotIsInstance(node.value, (float, bytes, complex), where)
                self.assertFalse(isinstance(node.value, str) and "%" in node.value, where)
            if isinstance(node, ast.ListComp):
                self.assertEqual(len(node.generators), 1, where)
                self.assertLessEqual(len(node.generators[0].ifs), 1, where)
            if isinstance(node, (ast.FunctionDef, ast.ClassDef)):
                self.assertEqual(node.decorator_list, [], where)

    def test_imports(self):
        for where, node in self.nodes():
            if isinstance(node, ast.ImportFrom):
                self.assertEqual(node.level, 0, where)
                self.assertRegex(node.module, r"^seenbacks\.", where)
                source = self.trees[node.module.split(".")[1] + ".py"]
                for alias in node.names:
                    self.assertIn(alias.name, list(bound_names(source)), where)
                    self.assertIsNone(alias.asname, where)

    def test_names(self):
        for file, tree in self.trees.items():
            bound = set(bound_names(tree)) - {"__init__"}
            for name in bound:
                self.assertRegex(name, r"^[A-Za-z][A-Za-z0-9_]*$", file)
                self.assertNotIn(name, dir(builtins), file)
                self.assertNotIn(name, NAMES_NOWHERE, file)
            for node in ast.walk(tree):
                if isinstance(node, ast.Name):
                    self.assertIn(node.id, bound | OWN_OF_PYTHON, f"{file}:{node.lineno}")

    def test_each_top_name_once(self):
        for file, tree in self.trees.items():
            names = [name for node in tree.body for name in bound_names(node) if not isinstance(node, ast.ClassDef)
                     and not isinstance(node, ast.FunctionDef)]
            names += [node.name for node in tree.body if isinstance(node, (ast.ClassDef, ast.FunctionDef))]
            self.assertEqual(len(names), len(set(names)), file)

    def test_methods(self):
        own = {name for tree in self.trees.values() for name in bound_names(tree)}
        for where, node in self.nodes():
            if isinstance(node, ast.Attribute):
                self.assertIn(node.attr, own | METHODS_OF_PYTHON, where)
                self.assertNotIn(node.attr, NAMES_NOWHERE, where)

    def test_parameters_and_annotations(self):
        for where, node in self.nodes():
            if isinstance(node, (ast.FunctionDef, ast.Lambda)):
                plain = node.args
                self.assertEqual((plain.vararg, plain.kwarg, plain.kwonlyargs, plain.posonlyargs),
                                 (None, None, [], []), where)
                self.assertEqual([arg.annotation for arg in plain.args if arg.annotation], [], where)

    def test_is_beside_none_true_and_false_alone(self):
        for where, node in self.nodes():
            if isinstance(node, ast.Compare):
                for sign, right in zip(node.ops, node.comparators):
                    if isinstance(sign, (ast.Is, ast.IsNot)):
                        self.assertIsInstance(right, ast.Constant, where)
                        self.assertIn(repr(right.value), ("None", "True", "False"), where)

    def test_top_of_a_module(self):
        for file, tree in self.trees.items():
            for at, node in enumerate(tree.body):
                docstring = at == 0 and isinstance(node, ast.Expr) and isinstance(node.value, ast.Constant)
                self.assertTrue(docstring or isinstance(
                    node, (ast.ImportFrom, ast.FunctionDef, ast.ClassDef, ast.Assign)), f"{file}:{node.lineno}")
                if isinstance(node, ast.Assign):
                    inner = list(ast.walk(node.value))[1:]
                    self.assertEqual([part for part in inner if isinstance(part, (ast.List, ast.Dict, ast.Call))], [],
                                     f"{file}:{node.lineno}")

    def test_lists_and_dicts_of_the_top_are_only_read(self):
        kept = {node.targets[0].id for tree in self.trees.values() for node in tree.body
                if isinstance(node, ast.Assign) and isinstance(node.value, (ast.List, ast.Dict))}
        self.assertIn("BOUNDS", kept)
        for where, node in self.nodes():
            if isinstance(node, ast.Attribute) and isinstance(node.value, ast.Name):
                self.assertFalse(node.value.id in kept and node.attr not in ("get", "items", "keys", "values"), where)
            if isinstance(node, ast.Subscript) and isinstance(node.value, ast.Name) and node.value.id in kept:
                self.assertIsInstance(node.ctx, ast.Load, where)
            if isinstance(node, ast.ImportFrom):
                self.assertEqual([alias.name for alias in node.names if alias.name in kept], [], where)

    def test_no_file_draws_from_itself_in_any_steps(self):
        draws = {name: {node.module.split(".")[1] + ".py" for node in tree.body if isinstance(node, ast.ImportFrom)}
                 for name, tree in self.trees.items()}
        for name in draws:
            reached = set()
            waiting = set(draws[name])
            while waiting:
                source = waiting.pop()
                if source not in reached:
                    reached.add(source)
                    waiting |= draws[source]
            self.assertNotIn(name, reached)

    def test_no_name_is_a_method_here_and_a_value_there(self):
        methods = set()
        given = set()
        for where, node in self.nodes():
            if isinstance(node, ast.ClassDef):
                methods |= {part.name for part in node.body if isinstance(part, ast.FunctionDef)}
            if isinstance(node, ast.Attribute) and isinstance(node.ctx, ast.Store):
                given.add(node.attr)
        self.assertEqual(methods & given, set())
        own_of_python = {name for kind in (str, int, list, dict, set, bytes) for name in dir(kind)}
        self.assertEqual((methods | given) & own_of_python - {"__init__"}, set())
