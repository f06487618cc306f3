"""The files of the package keep to those rules of the subset that can be told at a glance."""

import ast
import builtins
import io
import os
import re
import tokenize
import unittest

FOLDER = os.path.join(os.path.dirname(os.path.dirname(os.path.abspath(__file__))), "stringrods")
LIBRARY = {"math": {"gcd", "lcm", "isqrt", "comb", "perm", "factorial"}}
BUILTINS = {
    "len", "range", "enumerate", "zip", "min", "max", "sum", "abs", "sorted", "reversed", "int", "str", "bool",
    "list", "tuple", "dict", "set", "isinstance", "ord", "repr", "any", "all", "divmod", "ValueError", "TypeError",
    "KeyError",
}
METHODS = {
    "append", "clear", "copy", "count", "endswith", "extend", "find", "get", "index", "insert", "isalnum",
    "isalpha", "isdigit", "islower", "isspace", "isupper", "items", "join", "keys", "ljust", "lower", "lstrip",
    "partition", "pop", "remove", "replace", "reverse", "rfind", "rjust", "rpartition", "rsplit", "rstrip",
    "setdefault", "split", "splitlines", "startswith", "strip", "update", "upper", "values", "zfill", "bit_length",
}
DUNDERS = {"__init__", "__eq__", "__bool__", "__len__", "__contains__", "__enter__", "__exit__"}
# Variables and parameters that hold a function.
HELD_FUNCTIONS = {"action", "check", "reader"}
BARRED = (
    ast.AsyncFor, ast.AsyncFunctionDef, ast.AsyncWith, ast.Await, ast.Global, ast.Import, ast.Div, ast.MatMult,
    ast.GeneratorExp,
)
BARRED_NAMES = {
    "register", "mro", "elements", "law", "version_info", "with_traceback", "add_note", "attrgetter", "gc", "importlib",
    "methodcaller", "os", "sys", "args", "iter", "next", "map",
}
BARRED_WORDS = {
    "type", "typing", "typing_extensions", "enum", "Enum", "IntEnum", "StrEnum", "Flag", "IntFlag", "Generic",
    "Protocol", "ABC", "ABCMeta", "namedtuple", "NamedTuple", "TypedDict", "TYPE_CHECKING", "abstractmethod",
    "dataclass", "overload", "contextmanager",
}


def file_names():
    return sorted(name for name in os.listdir(FOLDER) if name != "__pycache__")


def source(name):
    with open(os.path.join(FOLDER, name), encoding="utf-8") as file:
        return file.read()


def own_names(tree):
    """The names that a file binds at its top."""
    names = set()
    for node in tree.body:
        if isinstance(node, (ast.FunctionDef, ast.ClassDef)):
            names.add(node.name)
        elif isinstance(node, ast.ImportFrom):
            names.update(alias.name for alias in node.names)
        elif isinstance(node, ast.Assign):
            names.update(target.id for target in node.targets)
    return names


def own_methods():
    """The names of all methods that classes of the package define."""
    trees = [ast.parse(source(name)) for name in file_names()]
    classes = [node for tree in trees for node in tree.body if isinstance(node, ast.ClassDef)]
    return {part.name for node in classes for part in node.body if isinstance(part, ast.FunctionDef)}


class Files(unittest.TestCase):
    def test_the_folder_has_only_its_files(self):
        self.assertIn("__init__.py", file_names())
        for name in file_names():
            self.assertRegex(name, r"^(__init__|[a-z][a-z0-9_]*)\.py$")

    def test_sizes_and_signs(self):
        for name in file_names():
            lines = source(name).split("\n")
            self.assertLessEqual(len(lines), 399, name)
            for line in lines:
                self.assertLessEqual(len(line), 120, name)
                self.assertTrue(all(" " <= sign <= "~" for sign in line), name)

    def test_short_functions(self):
        for name in file_names():
            for node in ast.walk(ast.parse(source(name))):
                if isinstance(node, ast.FunctionDef):
                    self.assertLessEqual(node.end_lineno - node.lineno + 1, 40, node.name)

    def test_what_stands_at_the_top(self):
        for name in file_names():
            for node in ast.parse(source(name)).body:
                plain = isinstance(node, (ast.FunctionDef, ast.ClassDef, ast.ImportFrom, ast.Assign))
                text = isinstance(node, ast.Expr) and isinstance(node.value, ast.Constant)
                self.assertTrue(plain or text, (name, node.lineno))

    def test_nothing_barred(self):
        for name in file_names():
            for node in ast.walk(ast.parse(source(name))):
                self.assertNotIsInstance(node, BARRED, name)
                if isinstance(node, ast.Constant):
                    self.assertNotIsInstance(node.value, (float, complex), name)
                    self.assertFalse(isinstance(node.value, str) and "%" in node.value, name)

    def test_imports(self):
        for name in file_names():
            for node in ast.walk(ast.parse(source(name))):
                if not isinstance(node, ast.ImportFrom):
                    continue
                self.assertEqual(node.level, 0)
                for alias in node.names:
                    self.assertIsNone(alias.asname)
                    if node.module in LIBRARY:
                        self.assertIn(alias.name, LIBRARY[node.module])
                    else:
                        self.check_import(node.module, alias.name)

    def check_import(self, module, name):
        folder, _, file = module.partition(".")
        self.assertEqual(folder, "stringrods")
        defined = [
            node.name for node in ast.parse(source(file + ".py")).body
            if isinstance(node, (ast.FunctionDef, ast.ClassDef))
        ]
        constants = [
            target.id for node in ast.parse(source(file + ".py")).body if isinstance(node, ast.Assign)
            for target in node.targets
        ]
        self.assertIn(name, defined + constants)

    def test_each_import_is_used(self):
        for name in file_names():
            tree = ast.parse(source(name))
            used = {node.id for node in ast.walk(tree) if isinstance(node, ast.Name)}
            for node in ast.walk(tree):
                if isinstance(node, ast.ImportFrom):
                    self.assertLessEqual({alias.name for alias in node.names}, used, name)

    def test_no_two_files_import_from_each_other(self):
        folder = "stringrods."
        needs = {}
        for name in file_names():
            parts = [node.module for node in ast.walk(ast.parse(source(name))) if isinstance(node, ast.ImportFrom)]
            needs[name] = {part[len(folder):] + ".py" for part in parts if part.startswith(folder)}
        while needs:
            free = [name for name in needs if not needs[name] & set(needs)]
            self.assertNotEqual(free, [])
            needs = {name: needs[name] for name in needs if name not in free}

    def test_exponents_are_literal(self):
        for name in file_names():
            for node in ast.walk(ast.parse(source(name))):
                if isinstance(node, ast.BinOp) and isinstance(node.op, ast.Pow):
                    self.assertIsInstance(node.right, ast.Constant, name)

    def test_what_is_iterated_at_once(self):
        once = {"zip", "enumerate", "reversed", "range"}
        for name in file_names():
            tree = ast.parse(source(name))
            heads = [node.iter for node in ast.walk(tree) if isinstance(node, (ast.For, ast.comprehension))]
            calls = [node for node in ast.walk(tree) if isinstance(node, ast.Call) and isinstance(node.func, ast.Name)]
            heads += [node.args[0] for node in calls if node.func.id in ("list", "tuple", "sorted") and node.args]
            for node in calls:
                if node.func.id in once:
                    self.assertTrue(any(node is head for head in heads), (name, node.lineno))

    def test_no_name_of_a_builtin_or_barred_word(self):
        for name in file_names():
            for node in ast.walk(ast.parse(source(name))):
                bound = []
                if isinstance(node, (ast.FunctionDef, ast.ClassDef)):
                    bound.append(node.name)
                elif isinstance(node, ast.arg):
                    bound.append(node.arg)
                elif isinstance(node, ast.Name) and isinstance(node.ctx, ast.Store):
                    bound.append(node.id)
                for each in bound:
                    # A doctest that ran before leaves the name _ there.
                    self.assertNotIn(each, set(dir(builtins)) - {"_"}, (name, node.lineno))
                    self.assertNotIn(each, BARRED_NAMES, (name, node.lineno))
                    self.assertRegex(each, r"^(__[a-z]+__|_?[A-Za-z][A-Za-z0-9_]*|_)$")
                    if each.startswith("__"):
                        self.assertIn(each, DUNDERS)

    def test_barred_words(self):
        for name in file_names():
            tree = ast.parse(source(name))
            texts = {ast.get_docstring(node, clean=False) for node in ast.walk(tree) if hasattr(node, "body")
                     and isinstance(node, (ast.Module, ast.FunctionDef, ast.ClassDef))}
            for token in tokenize.generate_tokens(io.StringIO(source(name)).readline):
                if token.type == tokenize.COMMENT:
                    continue
                if token.type == tokenize.STRING and ast.literal_eval(token.string) in texts:
                    continue
                self.assertLessEqual(set(re.findall(r"\w+", token.string)) & BARRED_WORDS, set(), (name, token.start))

    def test_nested_comprehensions_have_names_of_their_own(self):
        comprehensions = (ast.ListComp, ast.DictComp, ast.SetComp)
        for name in file_names():
            for node in ast.walk(ast.parse(source(name))):
                if not isinstance(node, comprehensions):
                    continue
                outer = {part.id for each in node.generators for part in ast.walk(each.target)
                         if isinstance(part, ast.Name)}
                for inner in ast.walk(node):
                    if isinstance(inner, comprehensions) and inner is not node:
                        names = {part.id for each in inner.generators for part in ast.walk(each.target)
                                 if isinstance(part, ast.Name)}
                        self.assertEqual(outer & names - {"_"}, set(), (name, node.lineno))

    def test_calls(self):
        methods = METHODS | own_methods()
        for name in file_names():
            tree = ast.parse(source(name))
            known = own_names(tree) | BUILTINS | HELD_FUNCTIONS
            for node in ast.walk(tree):
                if isinstance(node, ast.Call) and isinstance(node.func, ast.Name):
                    self.assertIn(node.func.id, known, (name, node.lineno))
                elif isinstance(node, ast.Call):
                    self.assertIn(node.func.attr, methods, (name, node.lineno))

    def test_classes(self):
        allowed = (ast.FunctionDef, ast.Expr)
        for name in file_names():
            for node in ast.walk(ast.parse(source(name))):
                if not isinstance(node, ast.ClassDef):
                    continue
                self.assertEqual(node.decorator_list, [])
                for part in node.body:
                    self.assertIsInstance(part, allowed, (name, part.lineno))
                methods = [part for part in node.body if isinstance(part, ast.FunctionDef)]
                self.assertEqual(len(methods), len({part.name for part in methods}))
                for part in methods:
                    self.assertLessEqual([mark.id for mark in part.decorator_list], ["property"])

    def test_lengths_are_of_something(self):
        for name in file_names():
            for node in ast.walk(ast.parse(source(name))):
                if isinstance(node, ast.FunctionDef) and node.name == "__len__":
                    self.assertEqual(ast.unparse(node.body[-1]), "return len(self.past)")

    def test_what_the_end_of_a_trial_does(self):
        for name in file_names():
            for node in ast.walk(ast.parse(source(name))):
                if isinstance(node, ast.FunctionDef) and node.name == "__exit__":
                    self.assertFalse([part for part in ast.walk(node) if isinstance(part, (ast.Call, ast.BinOp))])
                    tests = [ast.unparse(part.test) for part in ast.walk(node) if isinstance(part, ast.If)]
                    self.assertLessEqual(set(tests), {"kind is not None", "kind is None"})

    def test_what_is_caught(self):
        for name in file_names():
            for node in ast.walk(ast.parse(source(name))):
                if isinstance(node, ast.ExceptHandler):
                    self.assertEqual(ast.unparse(node.type), "RodError")

    def test_tables_at_the_top_are_written_out(self):
        for name in file_names():
            for node in ast.parse(source(name)).body:
                if isinstance(node, ast.Assign):
                    functions = {part.id for part in ast.walk(node.value) if isinstance(part, ast.Name)}
                    self.assertLessEqual(functions, own_names(ast.parse(source(name))))
                    self.assertFalse([part for part in ast.walk(node.value) if isinstance(part, (ast.Call, ast.BinOp))])

    def test_the_only_test_of_one_object(self):
        for name in file_names():
            for node in ast.walk(ast.parse(source(name))):
                if isinstance(node, ast.Compare) and isinstance(node.ops[0], (ast.Is, ast.IsNot)):
                    plain = isinstance(node.comparators[0], ast.Constant) and node.comparators[0].value is None
                    self.assertTrue(plain or ast.unparse(node) == "self is other", (name, node.lineno))

    def test_no_name_means_two_things(self):
        for name in file_names():
            tree = ast.parse(source(name))
            taken = own_names(tree) | BUILTINS
            for node in ast.walk(tree):
                if isinstance(node, ast.Name) and isinstance(node.ctx, ast.Store):
                    if node.col_offset > 0:
                        self.assertNotIn(node.id, taken, (name, node.lineno))
                elif isinstance(node, ast.arg):
                    self.assertNotIn(node.arg, taken, (name, node.lineno))


if __name__ == "__main__":
    unittest.main()
