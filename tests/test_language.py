"""The files of the package keep to the Python subset, as far as a short walk through them can see."""

import ast
import builtins
import os
import re
import unittest

import helpers  # noqa: F401  (sets the path)

FOLDER = os.path.join(os.path.dirname(os.path.dirname(os.path.abspath(__file__))), "classhouse")
BUILTINS = set("""len range enumerate zip min max sum abs sorted reversed int str bool list tuple dict set isinstance ord
repr any all divmod super Exception ValueError property""".split())
METHODS = set("""append clear copy count endswith extend find get index insert isalnum isalpha isdigit islower isspace
isupper items join keys ljust lower lstrip partition pop remove replace reverse rfind rjust rpartition rsplit rstrip
setdefault split splitlines startswith strip update upper values zfill bit_length add discard""".split())
BARRED_WORDS = """type typing enum Enum Flag Generic Protocol ABC namedtuple NamedTuple TypedDict abstractmethod dataclass
overload contextmanager""".split()
BARRED_NAMES = """register mro elements open input law attrgetter breakpoint builtins compile copyright credits delattr dir
eval exec exit gc getattr globals hasattr help id importlib license locals methodcaller os quit setattr type vars
sys""".split()
BARRED_NODES = (ast.Global, ast.AsyncFunctionDef, ast.Await, ast.GeneratorExp, ast.Lambda, ast.NamedExpr, ast.Yield,
                ast.YieldFrom, ast.With, ast.Div, ast.MatMult, ast.Nonlocal, ast.AnnAssign, ast.Import, ast.Delete)


def files():
    return sorted(name for name in os.listdir(FOLDER) if name != "__pycache__")


def text_of(name):
    with open(os.path.join(FOLDER, name), encoding="utf-8") as file:
        return file.read()


def bound_names(tree):
    """The names that functions bind: parameters, variables, and names of functions."""
    for node in ast.walk(tree):
        if isinstance(node, ast.arg):
            yield node.arg
        elif isinstance(node, ast.Name) and isinstance(node.ctx, ast.Store):
            yield node.id
        elif isinstance(node, (ast.FunctionDef, ast.ClassDef)):
            yield node.name


class LanguageTest(unittest.TestCase):
    def each(self):
        return [(name, ast.parse(text_of(name))) for name in files()]

    def test_folder(self):
        for name in files():
            self.assertRegex(name, r"^[a-z_]+\.py$")

    def test_sizes_and_characters(self):
        for name in files():
            lines = text_of(name).split("\n")
            self.assertLessEqual(len(lines), 400, name)
            for at, line in enumerate(lines, start=1):
                self.assertLessEqual(len(line), 120, (name, at))
                self.assertRegex(line, r"^[ -~]*$", (name, at))

    def test_functions_are_small(self):
        for name, tree in self.each():
            for node in ast.walk(tree):
                if isinstance(node, ast.FunctionDef):
                    self.assertLessEqual(node.end_lineno - node.lineno + 1, 40, (name, node.name))

    def test_nodes(self):
        for name, tree in self.each():
            for node in ast.walk(tree):
                self.assertNotIsInstance(node, BARRED_NODES)
                if isinstance(node, ast.Constant):
                    self.assertNotIsInstance(node.value, (float, complex))
                    self.assertNotIn("%", node.value if isinstance(node.value, str) else "")
                if isinstance(node, ast.Compare) and any(isinstance(op, (ast.Is, ast.IsNot)) for op in node.ops):
                    self.assertTrue(all(isinstance(side, ast.Constant) for side in node.comparators))

    def test_imports(self):
        needed = {}
        for name, tree in self.each():
            found = [node for node in ast.walk(tree) if isinstance(node, ast.ImportFrom)]
            needed[name] = [node.module.split(".")[1] + ".py" for node in found]
            for node in found:
                self.assertEqual((node.level, node.module.split(".")[0]), (0, "classhouse"))
                self.assertIn(node, tree.body)
                there = ast.parse(text_of(node.module.split(".")[1] + ".py"))
                own = {part.name for part in there.body if isinstance(part, (ast.FunctionDef, ast.ClassDef))}
                own |= {target.id for part in there.body if isinstance(part, ast.Assign) for target in part.targets}
                for alias in node.names:
                    self.assertIn(alias.name, own)
        while needed:
            free = [name for name in needed if not any(other in needed for other in needed[name])]
            self.assertTrue(free, "files import from each other")
            needed = {name: needed[name] for name in needed if name not in free}

    def test_names(self):
        known = set(dir(builtins))
        for name, tree in self.each():
            taken = {alias.name for node in ast.walk(tree) if isinstance(node, ast.ImportFrom) for alias in node.names}
            classes = {node.name for node in tree.body if isinstance(node, ast.ClassDef)}
            for bound in bound_names(tree):
                self.assertNotIn(bound, known | taken | set(BARRED_NAMES))
                self.assertTrue(bound in classes or bound.isupper() or bound == bound.lower())
                self.assertTrue(not bound.startswith("__") or bound in ("__init__", "__eq__", "__len__"))
                if bound in classes:
                    self.assertEqual([*bound_names(tree)].count(bound), 1)

    def test_words(self):
        for name in files():
            for word in BARRED_WORDS:
                self.assertIsNone(re.search(rf"\b{word}\b", text_of(name)), (name, word))

    def test_calls(self):
        own = {node.name for _, tree in self.each() for node in ast.walk(tree)
               if isinstance(node, (ast.FunctionDef, ast.ClassDef))}
        for name, tree in self.each():
            for node in ast.walk(tree):
                if isinstance(node, ast.Call) and isinstance(node.func, ast.Name):
                    self.assertIn(node.func.id, own | BUILTINS | {"deed", "mend"})
                elif isinstance(node, ast.Call):
                    self.assertIn(node.func.attr, own | METHODS | {"__init__"})

    def test_module_level(self):
        for name, tree in self.each():
            for node in tree.body:
                self.assertIsInstance(node, (ast.Expr, ast.ImportFrom, ast.FunctionDef, ast.ClassDef, ast.Assign))
                if isinstance(node, ast.Expr):
                    self.assertIsInstance(node.value, ast.Constant)


if __name__ == "__main__":
    unittest.main()
