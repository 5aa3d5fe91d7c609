"""The package's files against the rules of the language part: files, imports, statements, names, sizes."""

import ast
import builtins
import pathlib
import re
import unittest

PACKAGE = pathlib.Path(__file__).resolve().parent.parent / "postdistricts"
FILES = sorted(PACKAGE.rglob("*.py"))

OWN_NAMES = set("""len range enumerate zip min max sum abs sorted reversed int str bool list tuple dict set frozenset
    isinstance ord repr any all divmod Exception ValueError TypeError KeyError IndexError LookupError
    ZeroDivisionError ArithmeticError OverflowError RuntimeError NotImplementedError AttributeError
    StopIteration""".split())
OWN_METHODS = set("""append clear copy count endswith extend find get index insert isalnum isalpha isdigit islower
    isspace isupper items join keys ljust lower lstrip partition pop remove replace reverse rfind rjust rpartition
    rsplit rstrip setdefault split splitlines startswith strip update upper values zfill bit_length""".split())
WORDS_LEFT_OUT = r"""\b(type|typing|typing_extensions|enum|Enum|IntEnum|StrEnum|Flag|IntFlag|Generic|Protocol|ABC|ABCMeta
    |namedtuple|NamedTuple|TypedDict|TYPE_CHECKING|abstractmethod)\b|dataclass|overload|contextmanager"""
NAMES_LEFT_OUT = set("""register mro elements open input version_info with_traceback add_note attrgetter breakpoint
    builtins compile copyright credits delattr dir eval exec exit gc getattr globals hasattr help id importlib license
    locals methodcaller os quit setattr super type vars sys chr format format_map""".split())
FILE_NAMES_LEFT_OUT = set("test tests testing site conftest sitecustomize usercustomize".split()) | set(dir(builtins))
STATEMENTS = (ast.Assign, ast.AugAssign, ast.If, ast.While, ast.For, ast.Return, ast.Break, ast.Continue, ast.Pass,
              ast.Raise, ast.Try, ast.Expr, ast.FunctionDef, ast.ClassDef, ast.ImportFrom)
EXPRESSIONS = (ast.Constant, ast.List, ast.Tuple, ast.Dict, ast.Set, ast.BinOp, ast.UnaryOp, ast.BoolOp, ast.Compare,
               ast.IfExp, ast.Call, ast.Attribute, ast.Subscript, ast.Slice, ast.ListComp, ast.JoinedStr,
               ast.FormattedValue, ast.Name, ast.Lambda)
WALKED_AT_ONCE = ("zip", "enumerate", "reversed", "range")
WALKED_IN = ("list", "tuple", "dict", "sorted", "sum", "any", "all", "enumerate", "zip", "min", "max")
SPECIAL_METHODS = ("__init__", "__eq__", "__repr__", "__str__", "__len__")


def parsed():
    for path in FILES:
        yield path.name, ast.parse(path.read_text(encoding="utf-8"))


def nodes(*kinds):
    for name, tree in parsed():
        for node in ast.walk(tree):
            if isinstance(node, kinds):
                yield f"{name}:{getattr(node, 'lineno', 0)}", node


def bound_names(tree):
    for node in ast.walk(tree):
        if isinstance(node, (ast.FunctionDef, ast.ClassDef)):
            yield node.name
        elif isinstance(node, ast.arg):
            yield node.arg
        elif isinstance(node, ast.Name) and isinstance(node.ctx, ast.Store):
            yield node.id
        elif isinstance(node, ast.alias):
            yield node.name
        elif isinstance(node, ast.ExceptHandler) and node.name:
            yield node.name


def own_names(kind):
    return {node.name for where, node in nodes(kind)}


class FilesAndSigns(unittest.TestCase):
    def test_python_files_alone_with_plain_names(self):
        self.assertIn("__init__.py", [path.name for path in FILES])
        for path in PACKAGE.rglob("*"):
            if "__pycache__" in path.parts:
                continue
            self.assertTrue(re.fullmatch(r"[a-z][a-z0-9_]*\.py|__init__\.py|__main__\.py", path.name), path)
            self.assertFalse(path.stem in FILE_NAMES_LEFT_OUT or path.stem.startswith("test_"), path)

    def test_sizes(self):
        for path in FILES:
            lines = path.read_text(encoding="utf-8").split("\n")
            self.assertLessEqual(len(lines), 400, path)
            self.assertLessEqual(max(len(line) for line in lines), 120, path)
        for where, node in nodes(ast.FunctionDef):
            self.assertLessEqual(node.end_lineno - node.lineno + 1, 40, where)

    def test_signs_and_words(self):
        for path in FILES:
            text = path.read_text(encoding="utf-8")
            self.assertIsNone(re.search(r"[^ -~\n]", text), path)
            self.assertIsNone(re.search(WORDS_LEFT_OUT, text, re.VERBOSE), path)


class Imports(unittest.TestCase):
    def test_own_modules_by_full_names_from_where_a_name_is_defined(self):
        defined = {name[:-3]: {one for node in tree.body for one in bound_names(node)
                               if not isinstance(node, ast.ImportFrom)} for name, tree in parsed()}
        for where, node in nodes(ast.Import, ast.ImportFrom):
            self.assertIsInstance(node, ast.ImportFrom, where)
            self.assertEqual(node.level, 0, where)
            self.assertTrue(node.module.startswith("postdistricts."), where)
            for alias in node.names:
                self.assertIn(alias.name, defined[node.module.split(".")[1]], where)

    def test_no_two_files_draw_from_one_another(self):
        drawn = {name[:-3]: {node.module.split(".")[1] for node in ast.walk(tree) if isinstance(node, ast.ImportFrom)}
                 for name, tree in parsed()}
        while drawn:
            free = [name for name in drawn if not drawn[name]]
            self.assertTrue(free, drawn)
            drawn = {name: drawn[name] - set(free) for name in drawn if name not in free}

    def test_all_that_is_imported_is_used(self):
        for name, tree in parsed():
            used = {node.id for node in ast.walk(tree) if isinstance(node, ast.Name)}
            for node in ast.walk(tree):
                if isinstance(node, ast.ImportFrom):
                    self.assertEqual({alias.name for alias in node.names} - used, set(), name)


class Statements(unittest.TestCase):
    def test_the_top_of_a_module(self):
        for name, tree in parsed():
            self.assertIsNotNone(ast.get_docstring(tree), name)
            bound = []
            for node in tree.body[1:]:
                self.assertIsInstance(node, (ast.ImportFrom, ast.FunctionDef, ast.ClassDef, ast.Assign), name)
                if isinstance(node, ast.Assign):
                    bound += [target.id for target in node.targets]
                    self.assertFalse([one for one in ast.walk(node.value) if isinstance(one, ast.Call)], name)
                elif not isinstance(node, ast.ImportFrom):
                    bound.append(node.name)
            self.assertEqual(len(bound), len(set(bound)), name)

    def test_only_the_statements_told(self):
        for where, node in nodes(ast.stmt):
            self.assertIsInstance(node, STATEMENTS, where)
        for where, node in nodes(ast.For, ast.While):
            self.assertEqual(node.orelse, [], where)
        for where, node in nodes(ast.Assign):
            self.assertEqual(len(node.targets), 1, where)
            self.assertNotIsInstance(node.targets[0], (ast.Tuple, ast.List), where)
        for where, node in nodes(ast.Try):
            self.assertEqual(node.finalbody, [], where)

    def test_only_calls_stand_by_themselves(self):
        for name, tree in parsed():
            for node in ast.walk(tree):
                if isinstance(node, ast.Expr) and node is not tree.body[0]:
                    self.assertIsInstance(node.value, ast.Call, f"{name}:{node.lineno}")

    def test_functions_and_classes(self):
        for where, node in nodes(ast.FunctionDef):
            given = node.args
            self.assertFalse(given.vararg or given.kwarg or given.kwonlyargs or given.posonlyargs, where)
            self.assertEqual((node.decorator_list, node.returns), ([], None), where)
        for where, node in nodes(ast.arg):
            self.assertIsNone(node.annotation, where)
        for where, node in nodes(ast.ClassDef):
            self.assertEqual((node.decorator_list, node.keywords), ([], []), where)
            self.assertLessEqual(len(node.bases), 1, where)
            for part in node.body:
                self.assertIsInstance(part, (ast.FunctionDef, ast.Pass), where)

    def test_errors(self):
        raised = own_names(ast.ClassDef) | {"ValueError"}
        for where, node in nodes(ast.Raise):
            self.assertIsInstance(node.exc, ast.Call, where)
            self.assertIn(node.exc.func.id, raised, where)
        for where, node in nodes(ast.ExceptHandler):
            self.assertIn(node.type.id, own_names(ast.ClassDef), where)


class Expressions(unittest.TestCase):
    def test_only_the_expressions_told(self):
        for where, node in nodes(ast.expr):
            self.assertIsInstance(node, EXPRESSIONS, where)
        for where, node in nodes(ast.BinOp, ast.AugAssign):
            self.assertNotIsInstance(node.op, (ast.Div, ast.MatMult, ast.Pow), where)
        for where, node in nodes(ast.Constant):
            self.assertIsInstance(node.value, (int, str, type(None)), where)
        for where, node in nodes(ast.ListComp):
            self.assertEqual(len(node.generators), 1, where)
            self.assertLessEqual(len(node.generators[0].ifs), 1, where)
        for where, node in nodes(ast.Compare):
            if any(isinstance(op, (ast.Is, ast.IsNot)) for op in node.ops):
                self.assertIsInstance(node.comparators[0], ast.Constant, where)

    def test_walked_at_once(self):
        for name, tree in parsed():
            fit = [id(node.iter) for node in ast.walk(tree) if isinstance(node, (ast.For, ast.comprehension))]
            fit += [id(node.args[0]) for node in ast.walk(tree) if isinstance(node, ast.Call) and node.args
                    and isinstance(node.func, ast.Name) and node.func.id in WALKED_IN]
            for node in ast.walk(tree):
                if isinstance(node, ast.Call) and isinstance(node.func, ast.Name) and node.func.id in WALKED_AT_ONCE:
                    self.assertIn(id(node), fit, f"{name}:{node.lineno}")

    def test_sets_stand_within_len_or_sorted_or_beside_in(self):
        for name, tree in parsed():
            fit = [id(node.args[0]) for node in ast.walk(tree) if isinstance(node, ast.Call) and node.args
                   and isinstance(node.func, ast.Name) and node.func.id in ("len", "sorted")]
            for node in ast.walk(tree):
                if isinstance(node, ast.Call) and isinstance(node.func, ast.Name) and node.func.id == "set":
                    self.assertIn(id(node), fit, f"{name}:{node.lineno}")


class Names(unittest.TestCase):
    def test_plain_names(self):
        for name, tree in parsed():
            for one in bound_names(tree):
                self.assertTrue(one in SPECIAL_METHODS or re.fullmatch(r"[A-Za-z][A-Za-z0-9_]*", one), (name, one))
                self.assertFalse(one in NAMES_LEFT_OUT or one in dir(builtins), (name, one))

    def test_locals_are_not_called_like_classes_imports_or_functions(self):
        for name, tree in parsed():
            top = {one.name for node in tree.body if isinstance(node, ast.ImportFrom) for one in node.names}
            top |= {node.name for node in tree.body if isinstance(node, (ast.ClassDef, ast.FunctionDef))}
            for node in ast.walk(tree):
                if isinstance(node, ast.arg):
                    self.assertNotIn(node.arg, top, name)
                elif isinstance(node, ast.Name) and isinstance(node.ctx, ast.Store):
                    self.assertNotIn(node.id, top, name)

    def test_only_the_own_names_of_python_that_are_told(self):
        for where, node in nodes(ast.Name):
            if node.id in dir(builtins):
                self.assertIn(node.id, OWN_NAMES, where)
            self.assertNotIn(node.id, NAMES_LEFT_OUT, where)

    def test_methods_and_values(self):
        methods = {part.name for where, node in nodes(ast.ClassDef) for part in node.body
                   if isinstance(part, ast.FunctionDef)}
        values = {node.attr for where, node in nodes(ast.Attribute) if isinstance(node.ctx, ast.Store)}
        self.assertEqual(methods & values, set())
        taken = {one for kind in (str, int, list, dict, set, bytes, tuple) for one in dir(kind)}
        self.assertEqual((methods - set(SPECIAL_METHODS)) & taken, set())
        self.assertEqual(values & taken, set())
        for where, node in nodes(ast.Attribute):
            self.assertIn(node.attr, methods | values | OWN_METHODS, where)
            self.assertNotIn(node.attr, NAMES_LEFT_OUT, where)


if __name__ == "__main__":
    unittest.main()
