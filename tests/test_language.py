"""Those rules of the Python subset that can be read off the syntax of the package's files."""

import ast
import builtins
import re
import unittest
from pathlib import Path

FOLDER = Path(__file__).resolve().parent.parent / "guestlives"
FILES = sorted(FOLDER.glob("*.py"))
TREES = {path.stem: ast.parse(path.read_text(encoding="utf-8")) for path in FILES}

BUILTINS = set(
    "len range enumerate zip min max sum abs sorted reversed int str bool list tuple dict set isinstance ord repr "
    "any all divmod ValueError iter next".split()
)
METHODS = set(
    "append clear copy count endswith extend get index insert isalnum isalpha isdigit islower isspace isupper items "
    "join keys ljust lower lstrip partition pop remove replace reverse rfind rjust rpartition rsplit rstrip "
    "setdefault split splitlines startswith strip update upper values zfill bit_length add discard".split()
)
DOUBLE = {"__init__", "__contains__", "__iter__", "__or__", "__sub__", "__call__", "__enter__", "__exit__"}
BARRED_WORDS = re.compile(
    r"\b(type|typing|typing_extensions|enum|Enum|IntEnum|StrEnum|Flag|IntFlag|Generic|Protocol|ABC|ABCMeta|"
    r"namedtuple|NamedTuple|TypedDict|TYPE_CHECKING|abstractmethod|_wall|_WallAttr|NotImplemented)\b"
    r"|dataclass|overload|contextmanager"
)
BARRED_NAMES = {
    "register", "mro", "elements", "open", "input", "law", "version_info", "with_traceback", "add_note", "_cold",
    "_outside", "_record",
}
BARRED_NODES = (
    ast.AsyncFunctionDef, ast.AsyncFor, ast.AsyncWith, ast.Await, ast.Global, ast.Nonlocal, ast.Import, ast.AnnAssign,
    ast.Div, ast.MatMult, ast.NamedExpr,
)


def walk_all(*kinds):
    for name, tree in TREES.items():
        for node in ast.walk(tree):
            if isinstance(node, kinds):
                yield name, node


def bound_at_top(tree):
    names = []
    for node in tree.body:
        if isinstance(node, ast.ImportFrom):
            names.extend(alias.asname or alias.name for alias in node.names)
        elif isinstance(node, (ast.FunctionDef, ast.ClassDef)):
            names.append(node.name)
        elif isinstance(node, ast.Assign):
            names.extend(target.id for target in node.targets)
    return names


def local_names(function):
    names = [arg.arg for arg in ast.walk(function.args) if isinstance(arg, ast.arg)]
    return names + [node.id for node in ast.walk(function)
                    if isinstance(node, ast.Name) and isinstance(node.ctx, ast.Store)]


class TestFiles(unittest.TestCase):
    def test_the_folder(self):
        for path in FOLDER.iterdir():
            if path.name != "__pycache__":
                self.assertRegex(path.name, r"\A[a-z0-9_]+\.py\Z")
        self.assertIn("__init__", TREES)

    def test_sizes_and_characters(self):
        for path in FILES:
            text = path.read_text(encoding="utf-8")
            self.assertRegex(text, r"\A[ -~\n]*\Z", path.name)
            self.assertLess(text.count("\n"), 400, path.name)
            for line in text.split("\n"):
                self.assertLessEqual(len(line), 120, path.name)
            self.assertTrue(text.endswith("\n"), path.name)

    def test_functions_have_at_most_40_lines(self):
        for name, node in walk_all(ast.FunctionDef):
            self.assertLessEqual(node.end_lineno - node.lineno + 1, 40, (name, node.name))

    def test_barred_words(self):
        for path in FILES:
            self.assertIsNone(BARRED_WORDS.search(path.read_text(encoding="utf-8")), path.name)


class TestModules(unittest.TestCase):
    def test_module_level(self):
        kinds = (ast.ImportFrom, ast.FunctionDef, ast.ClassDef, ast.Assign)
        for name, tree in TREES.items():
            self.assertIsNotNone(ast.get_docstring(tree), name)
            for node in tree.body[1:]:
                self.assertIsInstance(node, kinds, name)
                if isinstance(node, ast.Assign):
                    self.assertEqual([type(target) for target in node.targets], [ast.Name])
                    for part in ast.walk(node.value):
                        self.assertNotIsInstance(part, (ast.Call, ast.BinOp, ast.ListComp, ast.Set))
            top = [isinstance(node, ast.ImportFrom) for node in tree.body[1:]]
            self.assertEqual(top, sorted(top, reverse=True), name)
            names = bound_at_top(tree)
            self.assertEqual(len(names), len(set(names)), name)

    def test_lists_dicts_and_tuples_at_module_level_contain_no_list_and_no_dict(self):
        for name, tree in TREES.items():
            for node in tree.body:
                if isinstance(node, ast.Assign):
                    for part in ast.walk(node.value):
                        if part is not node.value:
                            self.assertNotIsInstance(part, (ast.List, ast.Dict), name)

    def test_classes_have_methods_and_plain_values(self):
        for name, node in walk_all(ast.ClassDef):
            self.assertIsNotNone(ast.get_docstring(node), (name, node.name))
            for part in node.body[1:]:
                self.assertIsInstance(part, (ast.FunctionDef, ast.Assign), (name, node.name))
                if isinstance(part, ast.Assign):
                    ast.literal_eval(part.value)

    def test_defaults_are_plain(self):
        for name, node in walk_all(ast.FunctionDef):
            for default in node.args.defaults + [default for default in node.args.kw_defaults if default]:
                if not isinstance(default, ast.Name):
                    self.assertIsInstance(ast.literal_eval(default), (int, str, bool, tuple, type(None)), name)

    def test_imports_name_the_file_that_defines(self):
        for name, node in walk_all(ast.ImportFrom):
            self.assertEqual(node.level, 0)
            self.assertTrue(node.module.startswith("guestlives."), (name, node.module))
            other = TREES[node.module.partition(".")[2]]
            own = [part for part in other.body if not isinstance(part, ast.ImportFrom)]
            for alias in node.names:
                self.assertIsNone(alias.asname)
                self.assertIn(alias.name, bound_at_top(ast.Module(own, [])), name)

    def test_no_two_files_import_from_each_other(self):
        wanted = {name: {node.module.partition(".")[2] for node in tree.body if isinstance(node, ast.ImportFrom)}
                  for name, tree in TREES.items()}
        while wanted:
            free = [name for name in wanted if not wanted[name] & set(wanted)]
            self.assertTrue(free, wanted)
            for name in free:
                del wanted[name]

    def test_every_import_is_used(self):
        for name, tree in TREES.items():
            used = {node.id for node in ast.walk(tree) if isinstance(node, ast.Name)}
            for node in tree.body:
                if isinstance(node, ast.ImportFrom):
                    for alias in node.names:
                        self.assertIn(alias.name, used, name)


class TestNames(unittest.TestCase):
    def test_local_names(self):
        known = set(dir(builtins))
        for name, tree in TREES.items():
            imports = {alias.name for node in tree.body if isinstance(node, ast.ImportFrom) for alias in node.names}
            classes = {node.name for node in tree.body if isinstance(node, ast.ClassDef)}
            for node in ast.walk(tree):
                if isinstance(node, ast.FunctionDef):
                    for local in local_names(node):
                        self.assertNotIn(local, imports | classes | known | BARRED_NAMES, (name, node.name))
            for bound in bound_at_top(tree):
                self.assertNotIn(bound, known | BARRED_NAMES, name)

    def test_double_underscores(self):
        for name, node in walk_all(ast.FunctionDef, ast.Name, ast.Attribute):
            word = getattr(node, "name", None) or getattr(node, "id", None) or getattr(node, "attr", "")
            if word.startswith("__") and word != "__init__":
                self.assertIn(word, DOUBLE, name)

    def test_nothing_is_read_from_an_underscore(self):
        for name, node in walk_all(ast.Name):
            if node.id == "_":
                self.assertIsInstance(node.ctx, ast.Store, name)

    def test_methods_and_attributes_differ(self):
        methods, attributes = set(), set()
        for _, node in walk_all(ast.ClassDef):
            methods |= {part.name for part in node.body if isinstance(part, ast.FunctionDef)}
        for _, node in walk_all(ast.Attribute):
            if isinstance(node.ctx, ast.Store):
                attributes.add(node.attr)
        self.assertEqual(methods & attributes, set())

    def test_own_names_are_not_those_of_builtin_values(self):
        known = set().union(*[dir(kind) for kind in (str, int, list, dict, set, bytes, tuple)])
        allowed = METHODS | {"find"}
        for name, node in walk_all(ast.ClassDef):
            for part in node.body:
                if isinstance(part, ast.FunctionDef) and part.name not in DOUBLE:
                    self.assertNotIn(part.name, known - allowed, (name, node.name))
        for name, node in walk_all(ast.Attribute):
            if isinstance(node.ctx, ast.Store):
                self.assertNotIn(node.attr, known, name)

    def test_generators_have_names_of_their_own(self):
        yields = {}
        for name, node in walk_all(ast.FunctionDef):
            found = any(isinstance(part, (ast.Yield, ast.YieldFrom)) for part in ast.walk(node))
            yields.setdefault(node.name, []).append(found)
        for name, found in yields.items():
            if any(found):
                self.assertEqual(len(found), 1, name)

    def test_generators_are_iterated_at_once(self):
        names = {node.name for _, node in walk_all(ast.FunctionDef)
                 if any(isinstance(part, (ast.Yield, ast.YieldFrom)) for part in ast.walk(node))}
        whole = {"list", "tuple", "dict", "sorted", "sum", "any", "all", "enumerate", "zip"}
        at_once = []
        for _, node in walk_all(ast.For, ast.comprehension, ast.YieldFrom, ast.Call):
            if isinstance(node, (ast.For, ast.comprehension)):
                at_once.append(node.iter)
            elif isinstance(node, ast.YieldFrom):
                at_once.append(node.value)
            elif isinstance(node.func, ast.Name) and node.func.id in whole:
                at_once.extend(node.args)
        for name, node in walk_all(ast.Call):
            if getattr(node.func, "id", getattr(node.func, "attr", "")) in names:
                self.assertIn(node, at_once, (name, node.lineno))


class TestExpressions(unittest.TestCase):
    def test_barred_nodes(self):
        for name, node in walk_all(*BARRED_NODES):
            self.fail((name, ast.dump(node)))

    def test_only_own_errors_are_caught(self):
        own = {node.name for node in TREES["errors"].body if isinstance(node, ast.ClassDef)}
        for name, node in walk_all(ast.Try):
            self.assertEqual((node.finalbody, node.orelse), ([], []), name)
            for handler in node.handlers:
                self.assertIn(handler.type.id, own, name)
                for part in ast.walk(handler):
                    if isinstance(part, ast.Attribute):
                        self.assertIn(part.attr, ("line", "column"), name)

    def test_errors_are_raised_by_name(self):
        own = {node.name for node in TREES["errors"].body if isinstance(node, ast.ClassDef)}
        for name, node in walk_all(ast.Raise):
            self.assertIsInstance(node.exc, ast.Call, name)
            self.assertIn(node.exc.func.id, own, name)
            self.assertTrue(node.cause is None or node.cause.value is None, name)

    def test_exits_of_with_statements_only_give_attributes_back(self):
        for name, node in walk_all(ast.FunctionDef):
            if node.name == "__exit__":
                for part in node.body:
                    self.assertIsInstance(part, ast.Assign, name)
                    self.assertEqual(len(part.targets), 1, name)
                    self.assertIsInstance(part.targets[0], (ast.Name, ast.Attribute), name)
                    self.assertEqual(part.value.value.id, "self", name)

    def test_stars_stand_in_parameters_alone(self):
        for name, node in walk_all(ast.Starred):
            self.fail((name, node.lineno))
        for name, node in walk_all(ast.Call):
            self.assertNotIn(None, [keyword.arg for keyword in node.keywords], (name, node.lineno))

    def test_constants(self):
        for name, node in walk_all(ast.Constant):
            self.assertNotIsInstance(node.value, (float, complex), name)
            if isinstance(node.value, str):
                self.assertNotIn(chr(37), node.value, name)

    def test_no_annotations(self):
        for name, node in walk_all(ast.FunctionDef):
            self.assertIsNone(node.returns, name)
            for arg in ast.walk(node.args):
                if isinstance(arg, ast.arg):
                    self.assertIsNone(arg.annotation, name)

    def test_decorators(self):
        for name, node in walk_all(ast.ClassDef):
            self.assertEqual(node.decorator_list, [], name)
        for name, node in walk_all(ast.FunctionDef):
            for decorator in node.decorator_list:
                self.assertIn(decorator.id, ("property", "staticmethod", "classmethod"), name)

    def test_builtins(self):
        decorators = {"property", "staticmethod", "classmethod"}
        others = set(dir(builtins)) - BUILTINS - decorators - {"super"}
        for name, node in walk_all(ast.Name):
            self.assertNotIn(node.id, others, name)

    def test_methods(self):
        own = {node.name for _, node in walk_all(ast.FunctionDef)}
        for name, node in walk_all(ast.Call):
            if isinstance(node.func, ast.Attribute):
                self.assertIn(node.func.attr, own | METHODS, name)

    def test_sets_are_used_on_the_spot(self):
        allowed = []
        for _, node in walk_all(ast.Call):
            if isinstance(node.func, ast.Name) and node.func.id in ("sorted", "len"):
                allowed.extend(node.args)
        for name, node in walk_all(ast.Set, ast.SetComp, ast.Call):
            if not isinstance(node, ast.Call) or getattr(node.func, "id", "") == "set":
                self.assertIn(node, allowed, (name, node.lineno))

    def test_super_is_called_at_once(self):
        callers = [node.func.value for _, node in walk_all(ast.Call) if isinstance(node.func, ast.Attribute)]
        for name, node in walk_all(ast.Call):
            if isinstance(node.func, ast.Name) and node.func.id == "super":
                self.assertIn(node, callers, name)
                self.assertEqual(node.args, [], name)

    def test_is_stands_beside_none_true_and_false(self):
        for name, node in walk_all(ast.Compare):
            for sign, other in zip(node.ops, node.comparators):
                if isinstance(sign, (ast.Is, ast.IsNot)):
                    self.assertIn(getattr(other, "value", 0), (None, True, False), name)

    def test_functions_of_tables_are_named_before_the_call(self):
        for name, node in walk_all(ast.Call):
            self.assertIsInstance(node.func, (ast.Name, ast.Attribute), name)


if __name__ == "__main__":
    unittest.main()
