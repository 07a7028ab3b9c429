"""What the code of the package keeps to: the rules of the language that can be seen in its syntax."""

import ast
import builtins
import os
import re
import unittest

FOLDER = os.path.join(os.path.dirname(os.path.dirname(os.path.abspath(__file__))), "whilemoved")
BUILTINS = (
    "len range enumerate zip min max sum abs sorted reversed int str bool list tuple dict isinstance ord repr any all "
    "divmod ValueError"
).split()
METHODS = "append count extend get index items join partition pop split values".split()
WORDS = (
    "type typing typing_extensions enum Enum IntEnum StrEnum Flag IntFlag Generic Protocol ABC ABCMeta namedtuple "
    "NamedTuple TypedDict TYPE_CHECKING abstractmethod"
).split()
NAMES = "register mro elements open input law version_info with_traceback add_note".split()
STATEMENTS = (
    ast.Assign, ast.AugAssign, ast.If, ast.While, ast.For, ast.Return, ast.Break, ast.Continue, ast.Pass, ast.Raise,
    ast.Try, ast.Expr, ast.FunctionDef, ast.ClassDef, ast.ImportFrom,
)
# "_" is one where an example has been run ahead: that is where Python keeps what it has shown.
BUILT_IN = tuple([name for name in dir(builtins) if name != "_"])
BARRED = (
    ast.GeneratorExp, ast.Set, ast.SetComp, ast.Div, ast.NamedExpr, ast.Lambda, ast.Starred, ast.Yield, ast.YieldFrom,
    ast.AnnAssign, ast.Pow,
)
LIBRARY = {"itertools": ["combinations"]}


def files():
    return sorted(os.listdir(FOLDER))


def source(name):
    with open(os.path.join(FOLDER, name), encoding="utf-8") as text:
        return text.read()


def trees():
    return [(name, ast.parse(source(name))) for name in files() if name.endswith(".py")]


def defined(tree):
    names = [row.name for row in tree.body if isinstance(row, (ast.FunctionDef, ast.ClassDef))]
    return names + [target.id for row in tree.body if isinstance(row, ast.Assign) for target in row.targets]


class Language(unittest.TestCase):
    def test_files(self):
        for name in files():
            self.assertRegex(name, r"^([a-z][a-z0-9_]*|__init__)\.py$|^__pycache__$")

    def test_characters_and_lines(self):
        for name, _ in trees():
            text = source(name)
            self.assertTrue(all(sign == "\n" or " " <= sign <= "~" for sign in text), name)
            self.assertLessEqual(len(text.split("\n")), 399, name)
            self.assertLessEqual(max(len(line) for line in text.split("\n")), 120, name)

    def test_functions_are_small(self):
        for name, tree in trees():
            for node in ast.walk(tree):
                if isinstance(node, ast.FunctionDef):
                    self.assertLessEqual(node.end_lineno - node.lineno + 1, 40, (name, node.name))
                    self.assertEqual(node.decorator_list, [], (name, node.name))

    def test_module_level(self):
        for name, tree in trees():
            for row in tree.body:
                docstring = isinstance(row, ast.Expr) and isinstance(row.value, ast.Constant)
                kinds = (ast.FunctionDef, ast.ClassDef, ast.ImportFrom, ast.Assign)
                self.assertTrue(docstring or isinstance(row, kinds), (name, row.lineno))

    def test_statements(self):
        for name, tree in trees():
            for node in ast.walk(tree):
                if isinstance(node, ast.stmt):
                    self.assertIsInstance(node, STATEMENTS, (name, node.lineno))
                self.assertNotIsInstance(node, BARRED, name)
                if isinstance(node, ast.Constant):
                    self.assertNotIsInstance(node.value, float, name)

    def test_imports_are_of_modules_above(self):
        known = dict(LIBRARY)
        names = {name: tree for name, tree in trees()}
        waiting = dict(names)
        while waiting:
            ready = [name for name in waiting if imported(waiting[name]) <= set(known)]
            self.assertNotEqual(ready, [], "files import from each other")
            for name in ready:
                known["whilemoved." + name[:-3]] = defined(waiting.pop(name))
        for name, tree in names.items():
            for row in tree.body:
                if isinstance(row, ast.ImportFrom):
                    self.assertLessEqual({alias.name for alias in row.names}, set(known[row.module]), name)
                    self.assertEqual([alias.asname for alias in row.names], [None] * len(row.names), name)

    def test_names(self):
        for name, tree in trees():
            imports = [alias.name for row in tree.body if isinstance(row, ast.ImportFrom) for alias in row.names]
            for node in ast.walk(tree):
                bound = bound_by(node)
                for word in bound:
                    self.assertNotIn(word, BUILT_IN, name)
                    self.assertNotIn(word, NAMES, name)
                if not isinstance(node, ast.FunctionDef) or node not in tree.body:
                    continue
                for inner in ast.walk(node):
                    if isinstance(inner, (ast.Name, ast.arg)) and not isinstance(getattr(inner, "ctx", None), ast.Load):
                        self.assertNotIn(bound_by(inner)[0], imports + defined(tree), (name, node.name))

    def test_builtins_and_methods(self):
        own = [row.name for _, tree in trees() for node in ast.walk(tree) if isinstance(node, ast.ClassDef)
               for row in node.body if isinstance(row, ast.FunctionDef)]
        for name, tree in trees():
            for node in ast.walk(tree):
                if isinstance(node, ast.Name) and node.id in BUILT_IN:
                    self.assertIn(node.id, BUILTINS, (name, node.lineno))
                if isinstance(node, ast.Call) and isinstance(node.func, ast.Attribute):
                    self.assertIn(node.func.attr, METHODS + own, (name, node.lineno))

    def test_views_are_iterated_on_the_spot(self):
        for name, tree in trees():
            good = [node.iter for node in ast.walk(tree) if isinstance(node, (ast.For, ast.comprehension))]
            calls = [node for node in ast.walk(tree) if isinstance(node, ast.Call) and isinstance(node.func, ast.Name)]
            calls = [node for node in calls if node.func.id in ("list", "tuple", "sorted")]
            good.extend([given for node in calls for given in node.args[:1]])
            for node in ast.walk(tree):
                if isinstance(node, ast.Call) and isinstance(node.func, ast.Attribute):
                    if node.func.attr in ("items", "keys", "values"):
                        self.assertIn(node, good, (name, node.lineno))

    def test_library(self):
        for name, tree in trees():
            heads = [node.iter for node in ast.walk(tree) if isinstance(node, (ast.For, ast.comprehension))]
            for node in ast.walk(tree):
                if isinstance(node, ast.Name) and node.id in LIBRARY["itertools"]:
                    called = [head.func for head in heads if isinstance(head, ast.Call)]
                    self.assertIn(node, called, (name, node.lineno))

    def test_ranges_are_not_passed_on(self):
        for name, tree in trees():
            good = [node.iter for node in ast.walk(tree) if isinstance(node, (ast.For, ast.comprehension))]
            good.extend([node.value for node in ast.walk(tree) if isinstance(node, ast.Assign)])
            calls = [node for node in ast.walk(tree) if isinstance(node, ast.Call) and isinstance(node.func, ast.Name)]
            for node in calls:
                if node.func.id in ("list", "tuple", "sorted", "enumerate", "zip", "reversed"):
                    good.extend(node.args)
            for node in calls:
                if node.func.id in ("range", "zip", "enumerate", "reversed"):
                    self.assertIn(node, good, (name, node.lineno))

    def test_words(self):
        for name, _ in trees():
            text = source(name)
            for word in WORDS:
                self.assertIsNone(re.search(r"\b" + word + r"\b", text), (name, word))
            for word in ("dataclass", "overload", "contextmanager", "_wall"):
                self.assertNotIn(word, text, name)

    def test_strings(self):
        for name, tree in trees():
            for node in ast.walk(tree):
                if isinstance(node, ast.Constant) and isinstance(node.value, str):
                    self.assertNotIn("%", node.value, name)
                    self.assertNotIn("__", node.value, name)


def imported(tree):
    return {row.module for row in tree.body if isinstance(row, ast.ImportFrom)}


def bound_by(node):
    if isinstance(node, ast.Name) and not isinstance(node.ctx, ast.Load):
        return [node.id]
    if isinstance(node, ast.arg):
        return [node.arg]
    if isinstance(node, (ast.FunctionDef, ast.ClassDef)):
        return [node.name]
    return []


if __name__ == "__main__":
    unittest.main()
