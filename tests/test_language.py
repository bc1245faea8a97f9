"""The package's files keep to a small part of Python; what of that a glance at their syntax can tell is seen to here."""

import ast
import builtins
import pathlib
import re
import unittest

import pushedtables

FOLDER = pathlib.Path(pushedtables.__file__).parent
FILES = sorted(FOLDER.glob("*.py"))

STATEMENTS = (ast.Assign, ast.AugAssign, ast.If, ast.While, ast.For, ast.Return, ast.Break, ast.Continue, ast.Pass,
              ast.Raise, ast.Try, ast.Expr, ast.FunctionDef, ast.ClassDef, ast.ImportFrom)
NOT_EXPRESSIONS = (ast.SetComp, ast.DictComp, ast.GeneratorExp, ast.NamedExpr, ast.Starred, ast.Await, ast.Yield,
                   ast.YieldFrom, ast.Div, ast.Pow, ast.Set, ast.JoinedStr, ast.Is, ast.IsNot)
BUILTIN_NAMES = tuple((
    "len range enumerate zip min max sum abs sorted reversed int str bool list tuple dict set frozenset isinstance ord "
    "repr any all divmod Exception ValueError KeyError").split())
METHODS = tuple((
    "append clear copy count endswith extend find get index insert items join keys pop remove replace reverse setdefault "
    "split startswith strip update values bit_length").split())
BARRED_NAMES = tuple("register mro elements open input version_info with_traceback add_note sys type id super".split())
BARRED_WORDS = re.compile(
    r"\b(type|typing|typing_extensions|enum|Enum|IntEnum|StrEnum|Flag|IntFlag|Generic|Protocol|ABC|ABCMeta|namedtuple|"
    r"NamedTuple|TypedDict|TYPE_CHECKING|abstractmethod)\b|dataclass|overload|contextmanager")
PYTHONS_OWN = tuple(name for kind in (str, int, list, dict, set, bytes, tuple) for name in dir(kind))


def nodes(kinds):
    for path in FILES:
        for node in ast.walk(ast.parse(path.read_text())):
            if isinstance(node, kinds):
                yield path.name, node


def own_methods():
    return {part.name for name, node in nodes(ast.ClassDef) for part in node.body if isinstance(part, ast.FunctionDef)}


class Language(unittest.TestCase):
    def test_files(self):
        names = [path.name for path in FOLDER.iterdir() if path.name != "__pycache__"]
        self.assertIn("__init__.py", names)
        for name in names:
            self.assertRegex(name, r"^(__init__|[a-z][a-z0-9_]*)\.py$")
            self.assertNotIn(name[:-3], dir(builtins))

    def test_signs_and_sizes(self):
        for path in FILES:
            text = path.read_text()
            self.assertRegex(text, r"\A[ -~\n]*\Z", path.name)
            self.assertIsNone(BARRED_WORDS.search(text), path.name)
            self.assertLessEqual(len(text.splitlines()), 400, path.name)
            self.assertLessEqual(max(len(line) for line in text.splitlines()), 120, path.name)
        for name, node in nodes(ast.FunctionDef):
            self.assertLessEqual(node.end_lineno - node.lineno + 1, 40, (name, node.name))

    def test_imports(self):
        for name, node in nodes(ast.ImportFrom):
            self.assertTrue(node.level == 0 and node.module.startswith("pushedtables."), name)
            defined = ast.parse((FOLDER / (node.module.split(".")[1] + ".py")).read_text()).body
            tops = [part.name for part in defined if isinstance(part, (ast.FunctionDef, ast.ClassDef))]
            tops += [part.targets[0].id for part in defined if isinstance(part, ast.Assign)]
            for drawn in node.names:
                self.assertIn(drawn.name, tops, name)
                self.assertIsNone(drawn.asname)

    def test_statements_and_expressions(self):
        for name, node in nodes(ast.stmt):
            self.assertIsInstance(node, STATEMENTS, (name, node.lineno))
            if isinstance(node, ast.Expr) and node.lineno > 1:
                self.assertIsInstance(node.value, ast.Call, (name, node.lineno))
            if isinstance(node, ast.Assign):
                self.assertEqual(len(node.targets), 1, (name, node.lineno))
                self.assertNotIsInstance(node.targets[0], (ast.Tuple, ast.List), (name, node.lineno))
            if isinstance(node, (ast.For, ast.While)):
                self.assertEqual(node.orelse, [], (name, node.lineno))
            if isinstance(node, (ast.FunctionDef, ast.ClassDef)):
                self.assertEqual(node.decorator_list, [], (name, node.lineno))
        for name, node in nodes(ast.ListComp):
            self.assertTrue(len(node.generators) == 1 and len(node.generators[0].ifs) <= 1, (name, node.lineno))
        for name, node in nodes(NOT_EXPRESSIONS):
            # Of these, `is` alone has a place here, and that beside None.
            self.assertIsInstance(node, (ast.Is, ast.IsNot), name)
        for name, node in nodes(ast.Compare):
            if isinstance(node.ops[0], (ast.Is, ast.IsNot)):
                self.assertIs(node.comparators[0].value, None, (name, node.lineno))

    def test_names(self):
        for name, node in nodes(ast.Name):
            self.assertFalse(node.id.startswith("_"), (name, node.lineno))
            self.assertNotIn(node.id, BARRED_NAMES, (name, node.lineno))
            if hasattr(builtins, node.id):
                self.assertIn(node.id, BUILTIN_NAMES, (name, node.lineno))
                self.assertIsInstance(node.ctx, ast.Load, (name, node.lineno))
        for name, node in nodes(ast.arg):
            self.assertFalse(node.arg.startswith("_") or hasattr(builtins, node.arg), (name, node.lineno))
            self.assertIsNone(node.annotation)

    def test_methods_and_values(self):
        methods = own_methods()
        self.assertFalse(methods & set(PYTHONS_OWN) - {"__init__"})
        for name, node in nodes(ast.Attribute):
            self.assertNotIn(node.attr, BARRED_NAMES, (name, node.lineno))
            if isinstance(node.ctx, ast.Store):
                self.assertNotIn(node.attr, methods, (name, node.lineno))
                self.assertNotIn(node.attr, PYTHONS_OWN, (name, node.lineno))
                self.assertIsInstance(node.value, ast.Name, (name, node.lineno))
        for name, node in nodes(ast.Call):
            if isinstance(node.func, ast.Attribute):
                self.assertIn(node.func.attr, METHODS + tuple(methods), (name, node.lineno))

    def test_sets_are_not_kept(self):
        inside = [part for name, node in nodes(ast.Call) if isinstance(node.func, ast.Name) and node.func.id in ("sorted", "len")
                  for part in node.args]
        at_once = [ast.unparse(part) for part in inside]
        for name, node in nodes(ast.Call):
            if isinstance(node.func, ast.Name) and node.func.id in ("set", "frozenset"):
                self.assertIn(ast.unparse(node), at_once, (name, node.lineno))

    def test_what_is_walked_is_walked_at_once(self):
        for name, node in nodes(ast.Assign):
            if isinstance(node.value, ast.Call) and isinstance(node.value.func, ast.Name):
                self.assertNotIn(node.value.func.id, ("zip", "enumerate", "reversed", "range"), (name, node.lineno))

    def test_the_top_of_a_module(self):
        for path in FILES:
            body = ast.parse(path.read_text()).body
            self.assertIsInstance(body[0].value.value, str, path.name)
            for node in body[1:]:
                self.assertIsInstance(node, (ast.ImportFrom, ast.FunctionDef, ast.ClassDef, ast.Assign), path.name)


if __name__ == "__main__":
    unittest.main()
