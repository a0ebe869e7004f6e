"""Rules of the language of the package that can be seen in its files."""

import ast
import io
import pathlib
import tokenize
import unittest

import recordcraft

FOLDER = pathlib.Path(recordcraft.__file__).parent
FILES = sorted(FOLDER.glob("*.py"))
BUILTINS = {"len", "range", "enumerate", "zip", "min", "max", "sum", "abs", "sorted", "int", "str", "bool", "list",
            "tuple", "dict", "isinstance", "any", "all", "ValueError", "TypeError", "NotImplemented", "super",
            "property", "classmethod", "type"}
DOUBLE = {"__init__", "__eq__", "__len__", "__bool__", "__iter__", "__lt__", "__le__", "__add__", "__contains__",
          "__getitem__", "__setitem__", "__slots__"}
METHODS = {"append", "extend", "get", "index", "items", "join", "pop", "remove", "replace", "setdefault", "update",
           "values", "split", "startswith", "endswith", "isdigit", "isalnum", "count", "copy", "insert", "find",
           "ljust", "strip", "partition", "clear", "reverse", "keys"}
STATEMENTS = (ast.FunctionDef, ast.ClassDef, ast.Return, ast.Delete, ast.Assign, ast.AugAssign, ast.For, ast.While,
              ast.If, ast.Raise, ast.Try, ast.Assert, ast.ImportFrom, ast.Expr, ast.Pass, ast.Break, ast.Continue)
BARRED = {"register", "mro", "elements", "open", "input", "law", "version_info", "with_traceback", "add_note",
          "typing", "enum", "Enum", "Flag", "Generic", "Protocol", "ABC", "namedtuple", "dataclass", "overload",
          "eval", "exec", "exit", "getattr", "hasattr", "setattr", "id", "vars", "dir", "globals", "locals", "os",
          "sys", "compile", "args", "format", "chr", "print", "hash", "frozenset", "float", "set", "iter", "next"}
CLASSES = {"int", "str", "bool", "list", "tuple", "dict"}
BUILTIN_NAMES = set(dir(__builtins__) if not isinstance(__builtins__, dict) else __builtins__)


def trees():
    for path in FILES:
        text = path.read_text(encoding="ascii")
        yield path, text, ast.parse(text)


def is_class_of(node):
    """Whether a part of a comparison is written as type(x)."""
    return isinstance(node, ast.Call) and getattr(node.func, "id", None) == "type" and len(node.args) == 1


def functions_of(tree):
    return [node for node in ast.walk(tree) if isinstance(node, ast.FunctionDef)]


class LanguageTest(unittest.TestCase):
    def test_sizes_and_characters(self):
        for path, text, tree in trees():
            self.assertTrue(set(text) <= {chr(at) for at in range(32, 127)} | {"\n"}, path)
            lines = text.splitlines()
            self.assertLessEqual(len(lines), 399, path)
            self.assertLessEqual(max(map(len, lines)), 120, path)
            for node in functions_of(tree):
                self.assertLessEqual(node.end_lineno - node.lineno + 1, 40, (path, node.name))

    def test_imports(self):
        bound = {}
        for path, _, tree in trees():
            own = {node.name for node in tree.body if isinstance(node, (ast.FunctionDef, ast.ClassDef))}
            own |= {node.targets[0].id for node in tree.body if isinstance(node, ast.Assign)}
            bound[f"recordcraft.{path.stem}"] = own
        for path, _, tree in trees():
            for node in ast.walk(tree):
                self.assertNotIsInstance(node, ast.Import, path)
                if isinstance(node, ast.ImportFrom):
                    self.assertEqual(node.level, 0)
                    for name in node.names:
                        self.assertIsNone(name.asname)
                        self.assertIn(name.name, bound[node.module], (path, node.module))

    def test_no_circle_of_imports(self):
        imports = {f"recordcraft.{path.stem}": {node.module for node in tree.body if isinstance(node, ast.ImportFrom)}
                   for path, _, tree in trees()}
        while imports:
            free = [name for name, others in imports.items() if not others]
            self.assertTrue(free, imports)
            imports = {name: others - set(free) for name, others in imports.items() if name not in free}

    def test_module_level(self):
        for path, _, tree in trees():
            for node in tree.body:
                if isinstance(node, ast.Expr):
                    self.assertIsInstance(node.value.value, str)
                elif isinstance(node, ast.Assign):
                    self.assertEqual(len(node.targets), 1)
                    self.assertIsInstance(ast.literal_eval(node.value), (int, str, tuple, dict))
                else:
                    self.assertIsInstance(node, (ast.ImportFrom, ast.FunctionDef, ast.ClassDef), path)

    def test_statements_and_decorators(self):
        for path, _, tree in trees():
            for node in ast.walk(tree):
                if isinstance(node, ast.stmt):
                    self.assertIsInstance(node, STATEMENTS, (path, node.lineno))
                self.assertNotIsInstance(node, (ast.Set, ast.SetComp, ast.GeneratorExp, ast.Await, ast.NamedExpr))
                if isinstance(node, ast.FunctionDef):
                    for one in node.decorator_list:
                        self.assertIn(one.id, ("property", "classmethod"))
                if isinstance(node, ast.ExceptHandler):
                    self.assertEqual(node.type.id, "RecordcraftError")
                if isinstance(node, ast.Constant):
                    self.assertNotIsInstance(node.value, (float, bytes))

    def test_names(self):
        for path, _, tree in trees():
            words = []
            for node in ast.walk(tree):
                for part in ("id", "attr", "name", "arg"):
                    word = getattr(node, part, None)
                    if isinstance(word, str) and not isinstance(node, ast.alias):
                        words.append(word)
            for word in words:
                self.assertNotIn(word, BARRED, path)
                if word.startswith("__"):
                    self.assertIn(word, DOUBLE, path)
                for start in ("_wall", "_pe_", "_dcw_", "_enum_", "_cm_", "_twin_re_", "_lay_", "_law_", "_stub_",
                              "_sre", "_cold", "_tuplegetter", "_outside", "_record", "_written_out", "_member_names"):
                    self.assertFalse(word.startswith(start), (path, word))

    def test_builtins_and_own_names(self):
        for path, _, tree in trees():
            stored = {node.id for node in ast.walk(tree) if isinstance(node, ast.Name)
                      and isinstance(node.ctx, ast.Store)}
            stored |= {node.arg for node in ast.walk(tree) if isinstance(node, ast.arg)}
            made = {node.name for node in tree.body if isinstance(node, (ast.FunctionDef, ast.ClassDef))}
            taken = {name.name for node in tree.body if isinstance(node, ast.ImportFrom) for name in node.names}
            classes = {node.name for node in tree.body if isinstance(node, ast.ClassDef)}
            for node in ast.walk(tree):
                if isinstance(node, ast.Name) and isinstance(node.ctx, ast.Load):
                    self.assertIn(node.id, BUILTINS | stored | made | taken, path)
            self.assertFalse((stored | made) & BUILTIN_NAMES, path)
            self.assertFalse(stored & (taken | classes), path)
            self.assertFalse(made & taken, path)

    def test_methods_of_builtin_values(self):
        own = set()
        for _, _, tree in trees():
            own |= {node.name for node in functions_of(tree)}
        for path, _, tree in trees():
            for node in ast.walk(tree):
                if isinstance(node, ast.Call) and isinstance(node.func, ast.Attribute):
                    self.assertIn(node.func.attr, METHODS | own, path)

    def test_identity_is_asked_only_where_allowed(self):
        for path, _, tree in trees():
            for node in ast.walk(tree):
                if isinstance(node, ast.Compare) and isinstance(node.ops[0], (ast.Is, ast.IsNot)):
                    left, right = node.left, node.comparators[0]
                    plain = isinstance(right, ast.Constant) and right.value in (None, True, False)
                    of_class = is_class_of(left) and (is_class_of(right) or getattr(right, "id", None) in CLASSES)
                    self.assertEqual(len(node.ops), 1)
                    self.assertTrue(plain or of_class or getattr(left, "id", None) == "self", (path, node.lineno))

    def test_class_of_a_value_is_only_compared(self):
        """type(x) stands beside `is` and `is not`, and nowhere else."""
        for path, text, tree in trees():
            self.assertNotIn("(type)", text, path)
            compared = [one for node in ast.walk(tree) if isinstance(node, ast.Compare)
                        and isinstance(node.ops[0], (ast.Is, ast.IsNot)) for one in (node.left, *node.comparators)]
            called = [one.func for one in compared if is_class_of(one)]
            for node in ast.walk(tree):
                if isinstance(node, ast.Name) and node.id == "type":
                    self.assertTrue(any(node is one for one in called), (path, node.lineno))

    def test_strings(self):
        for path, text, _ in trees():
            for token in tokenize.generate_tokens(io.StringIO(text).readline):
                if token.type == tokenize.STRING and not token.string.startswith('"""'):
                    self.assertNotIn("%", token.string, path)

    def test_iterators_are_iterated_at_once(self):
        """zip, enumerate, range and the views of dicts are not stored."""
        for path, _, tree in trees():
            for node in ast.walk(tree):
                if isinstance(node, ast.Assign) and isinstance(node.value, ast.Call):
                    called = node.value.func
                    word = called.id if isinstance(called, ast.Name) else called.attr
                    self.assertNotIn(word, ("zip", "enumerate", "range", "items", "keys", "values", "entries", "pairs"))
