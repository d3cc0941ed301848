"""The files of the package keep to the language that they are written in, as far as a test can see it."""

import ast
import builtins
import pathlib
import re
import unittest

PACKAGE = pathlib.Path(__file__).resolve().parent.parent / "passpapers"
BUILTINS = {
    "len", "range", "enumerate", "zip", "min", "max", "sum", "abs", "sorted", "reversed", "int", "str", "bool",
    "bytes", "list", "tuple", "dict", "set", "frozenset", "isinstance", "ord", "repr", "any", "all", "divmod",
    "Exception", "ValueError", "TypeError", "KeyError", "IndexError", "LookupError", "ZeroDivisionError",
    "ArithmeticError", "OverflowError", "RuntimeError", "NotImplementedError", "AttributeError", "StopIteration",
}
METHODS = {
    "append", "clear", "copy", "count", "endswith", "extend", "find", "get", "index", "insert", "isalnum",
    "isalpha", "isdigit", "islower", "isspace", "isupper", "items", "join", "keys", "ljust", "lower", "lstrip",
    "partition", "pop", "remove", "replace", "reverse", "rfind", "rjust", "rpartition", "rsplit", "rstrip",
    "setdefault", "split", "splitlines", "startswith", "strip", "update", "upper", "values", "zfill", "bit_length",
}
WORDS = re.compile(
    r"\b(type|typing|typing_extensions|enum|Enum|IntEnum|StrEnum|Flag|IntFlag|Generic|Protocol|ABC|ABCMeta|"
    r"namedtuple|NamedTuple|TypedDict|TYPE_CHECKING|abstractmethod)\b|dataclass|overload|contextmanager")
UNUSED = {
    "register", "mro", "elements", "open", "input", "version_info", "with_traceback", "add_note", "attrgetter",
    "breakpoint", "builtins", "compile", "copyright", "credits", "delattr", "dir", "eval", "exec", "exit", "gc",
    "getattr", "globals", "hasattr", "help", "id", "importlib", "license", "locals", "methodcaller", "os", "quit",
    "setattr", "super", "type", "vars", "sys",
}
BARRED = (
    ast.With, ast.Match, ast.Global, ast.Nonlocal, ast.Yield, ast.YieldFrom, ast.AsyncFunctionDef, ast.Await,
    ast.GeneratorExp, ast.NamedExpr, ast.Div, ast.Import, ast.AnnAssign,
)
OWN_ATTRIBUTES = {
    name for kind in (str, int, list, dict, set, bytes) for name in dir(kind) if not name.startswith("__")}


def trees_of_files():
    return {path: ast.parse(path.read_text()) for path in sorted(PACKAGE.glob("*.py"))}


def names_bound(function):
    """Parameters, and all names assigned within."""
    names = [arg.arg for arg in function.args.args + function.args.kwonlyargs]
    names += [node.id for node in ast.walk(function) if isinstance(node, ast.Name)
              and isinstance(node.ctx, ast.Store)]
    return names


class TestLanguage(unittest.TestCase):
    def each(self, kind):
        for path, tree in trees_of_files().items():
            for node in ast.walk(tree):
                if isinstance(node, kind):
                    yield f"{path.name}:{getattr(node, 'lineno', 0)}", node

    def test_the_folder_has_python_files_alone(self):
        for path in PACKAGE.iterdir():
            self.assertTrue(path.suffix == ".py" or path.name == "__pycache__", path)

    def test_signs_lines_and_words(self):
        for path in trees_of_files():
            text = path.read_text()
            self.assertLessEqual(text.count("\n"), 400, path)
            self.assertTrue(all(sign == "\n" or " " <= sign <= "~" for sign in text), path)
            self.assertLessEqual(max(len(line) for line in text.split("\n")), 120, path)
            self.assertIsNone(WORDS.search(text), path)

    def test_functions_are_short(self):
        for where, node in self.each(ast.FunctionDef):
            self.assertLessEqual(node.end_lineno - node.lineno + 1, 40, where)
            self.assertEqual([], node.decorator_list, where)
            self.assertIsNone(node.args.vararg or node.args.kwarg, where)

    def test_barred_statements_and_expressions(self):
        for where, node in self.each(BARRED):
            self.fail(f"{where}: {node}")
        for where, node in self.each((ast.For, ast.While)):
            self.assertEqual([], node.orelse, where)
        for where, node in self.each(ast.Starred):
            self.assertIsInstance(node.ctx, ast.Store, where)
        for where, node in self.each(ast.Constant):
            self.assertNotIsInstance(node.value, (float, complex), where)
            if isinstance(node.value, str):
                self.assertNotIn("\x25", node.value, where)

    def test_imports_are_from_the_files_that_define(self):
        defined = {}
        for path, tree in trees_of_files().items():
            names = [node.name for node in tree.body if isinstance(node, (ast.FunctionDef, ast.ClassDef))]
            names += [target.id for node in tree.body if isinstance(node, ast.Assign) for target in node.targets]
            defined["passpapers." + path.stem] = names
        for where, node in self.each(ast.ImportFrom):
            self.assertEqual(0, node.level, where)
            for alias in node.names:
                self.assertIn(alias.name, defined[node.module], where)

    def test_files_do_not_import_one_another_round(self):
        wants = {"passpapers." + path.stem: [node.module for node in tree.body if isinstance(node, ast.ImportFrom)]
                 for path, tree in trees_of_files().items()}
        while wants:
            free = [name for name, others in wants.items() if not any(other in wants for other in others)]
            self.assertTrue(free, wants)
            for name in free:
                del wants[name]

    def test_every_import_is_used_and_no_local_name_hides_one(self):
        for path, tree in trees_of_files().items():
            imported = {alias.asname or alias.name for node in tree.body if isinstance(node, ast.ImportFrom)
                        for alias in node.names}
            classes = {node.name for node in tree.body if isinstance(node, ast.ClassDef)}
            used = {node.id for node in ast.walk(tree) if isinstance(node, ast.Name)}
            self.assertEqual(set(), imported - used, path)
            for node in ast.walk(tree):
                if isinstance(node, (ast.FunctionDef, ast.Lambda)):
                    for name in names_bound(node) if isinstance(node, ast.FunctionDef) else []:
                        self.assertNotIn(name, imported | classes | set(dir(builtins)) | UNUSED, path)
                        self.assertFalse(name.startswith("_"), path)

    def test_builtins(self):
        for where, node in self.each(ast.Name):
            if hasattr(builtins, node.id):
                self.assertIn(node.id, BUILTINS, where)

    def test_names_bound_once_at_module_level(self):
        for path, tree in trees_of_files().items():
            names = [node.name for node in tree.body if isinstance(node, (ast.FunctionDef, ast.ClassDef))]
            names += [target.id for node in tree.body if isinstance(node, ast.Assign) for target in node.targets]
            names += [alias.name for node in tree.body if isinstance(node, ast.ImportFrom) for alias in node.names]
            self.assertEqual(len(names), len(set(names)), path)
            for node in tree.body:
                self.assertIsInstance(node, (ast.Expr, ast.ImportFrom, ast.FunctionDef, ast.ClassDef, ast.Assign))

    def test_methods_and_attributes(self):
        methods, attributes = set(), set()
        for where, node in self.each(ast.ClassDef):
            for part in node.body:
                if isinstance(part, ast.FunctionDef):
                    methods.add(part.name)
                    for inner in ast.walk(part):
                        if isinstance(inner, ast.Attribute) and isinstance(inner.ctx, ast.Store):
                            attributes.add(inner.attr)
        own = {name for name in methods if not name.startswith("__")}
        self.assertEqual(set(), own & attributes)
        self.assertEqual(set(), own & OWN_ATTRIBUTES)
        self.assertEqual(set(), attributes & (OWN_ATTRIBUTES - {"count", "index"}))
        for where, node in self.each(ast.Attribute):
            self.assertIn(node.attr, own | attributes | METHODS, where)

    def test_is_and_errors(self):
        for where, node in self.each(ast.Compare):
            for op, right in zip(node.ops, node.comparators):
                if isinstance(op, (ast.Is, ast.IsNot)):
                    self.assertIsInstance(right, ast.Constant, where)
        for where, node in self.each(ast.ExceptHandler):
            self.assertIsInstance(node.type, ast.Name, where)
            self.assertNotIn(node.type.id, BUILTINS - {"KeyError", "ZeroDivisionError", "StopIteration"}, where)
        for where, node in self.each(ast.Raise):
            self.assertTrue(node.exc is None or isinstance(node.exc, ast.Call), where)


if __name__ == "__main__":
    unittest.main()
