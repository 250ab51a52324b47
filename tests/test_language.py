"""Holds the package against the rules of LANGUAGE.md that can be seen in its text."""

import ast
import builtins
import io
import pathlib
import tokenize
import unittest

TOP = pathlib.Path(__file__).resolve().parent.parent / "stridelots"

LIBRARY = {
    "heapq": ["heappush", "heappop", "heapify", "heapreplace", "heappushpop"],
    "math": ["gcd", "lcm", "isqrt", "comb", "perm", "factorial"],
    "itertools": [
        "product", "combinations", "permutations", "chain", "accumulate", "pairwise", "islice",
        "zip_longest",
    ],
    "collections": ["defaultdict", "deque"],
}
BUILTINS = """
    len range enumerate zip min max sum abs sorted reversed int str bool list tuple dict set
    isinstance ord repr any all divmod iter next map super
    Exception ValueError TypeError KeyError IndexError LookupError StopIteration
""".split()
METHODS = """
    append clear copy count endswith extend find get index insert isalnum isalpha isdigit islower
    isspace isupper items join keys ljust lower lstrip partition pop remove replace reverse rfind
    rjust rpartition rsplit rstrip setdefault split splitlines startswith strip update upper values
    zfill bit_length title capitalize swapcase casefold center expandtabs removeprefix removesuffix
    rindex isascii isdecimal isnumeric istitle isidentifier isprintable add discard
""".split()
DOUBLE = ["__init__", "__eq__", "__repr__", "__str__", "__len__"]
MODULE_LEVEL = (ast.Expr, ast.ImportFrom, ast.FunctionDef, ast.ClassDef, ast.Assign)
# Nodes that LANGUAGE.md bars, or that this package does without.
BARRED = (
    ast.AsyncFunctionDef, ast.AsyncFor, ast.AsyncWith, ast.Await, ast.Import, ast.Global, ast.Nonlocal,
    ast.GeneratorExp, ast.Yield, ast.YieldFrom, ast.Lambda, ast.Div, ast.MatMult, ast.With, ast.Match,
    ast.AnnAssign, ast.NamedExpr, ast.Set, ast.SetComp,
)
WORDS = ("type", "typing", "enum", "Enum", "Flag", "Generic", "Protocol", "ABC", "namedtuple", "_wall")


def trees():
    return [(file, ast.parse(file.read_text())) for file in sorted(TOP.rglob("*.py"))]


def bound_in(node):
    """The names that a function binds: parameters and what it assigns."""
    names = [arg.arg for arg in ast.walk(node) if isinstance(arg, ast.arg)]
    names += [
        name.id for name in ast.walk(node)
        if isinstance(name, ast.Name) and isinstance(name.ctx, ast.Store)
    ]
    return names


def bound_at_top(tree):
    names = []
    for node in tree.body:
        if isinstance(node, ast.ImportFrom):
            names += [alias.name for alias in node.names]
        elif isinstance(node, (ast.FunctionDef, ast.ClassDef)):
            names.append(node.name)
        elif isinstance(node, ast.Assign):
            names += [target.id for target in node.targets]
    return names


class Language(unittest.TestCase):
    def each(self, *kinds):
        """All nodes of these kinds; a test that fails tells self.where of the one it was at."""
        for file, tree in trees():
            for node in ast.walk(tree):
                if isinstance(node, kinds):
                    self.where = f"{file.relative_to(TOP)}:{getattr(node, 'lineno', 0)}"
                    yield node

    def hold(self, held):
        if not held:
            self.fail(self.where)

    def test_folder_holds_nothing_else(self):
        for file in TOP.rglob("*"):
            if file.name != "__pycache__" and file.parent.name != "__pycache__":
                self.assertTrue(file.is_dir() or file.suffix == ".py", file)

    def test_module_level(self):
        for node in self.each(ast.Module):
            for at, part in enumerate(node.body):
                self.hold(isinstance(part, MODULE_LEVEL))
                if isinstance(part, ast.Expr):
                    self.hold(at == 0 and isinstance(part.value, ast.Constant))
                if isinstance(part, ast.Assign):
                    self.hold(not [call for call in ast.walk(part) if isinstance(call, ast.Call)])
            names = bound_at_top(node)
            self.hold(len(names) == len(set(names)))

    def test_no_barred_nodes(self):
        for _ in self.each(*BARRED):
            self.hold(False)

    def test_no_decorators_and_no_floats(self):
        for node in self.each(ast.FunctionDef, ast.ClassDef, ast.Constant):
            self.hold(not getattr(node, "decorator_list", []))
            self.hold(not isinstance(getattr(node, "value", 0), (float, complex)))

    def test_imports(self):
        for node in self.each(ast.ImportFrom):
            self.hold(not [alias for alias in node.names if alias.asname])
            if node.module in LIBRARY:
                for alias in node.names:
                    self.hold(alias.name in LIBRARY[node.module])
            else:
                file = TOP.parent / (node.module.replace(".", "/") + ".py")
                found = bound_at_top(ast.parse(file.read_text()))
                for alias in node.names:
                    self.hold(alias.name in found)

    def test_imports_make_no_circle(self):
        needs = {
            "stridelots." + ".".join(file.relative_to(TOP).with_suffix("").parts): [
                node.module for node in tree.body if isinstance(node, ast.ImportFrom)
            ]
            for file, tree in trees()
        }
        while needs:
            free = [name for name, modules in needs.items() if not set(modules) & set(needs)]
            self.assertTrue(free, needs)
            for name in free:
                del needs[name]

    def test_names(self):
        for node in self.each(ast.FunctionDef, ast.ClassDef):
            self.hold(not node.name.startswith("__") or node.name in DOUBLE)
            self.hold(node.name in DOUBLE or not hasattr(builtins, node.name))
        for node in self.each(ast.Name):
            if isinstance(node.ctx, ast.Store):
                self.hold(not hasattr(builtins, node.id) and not node.id.startswith("__"))
            else:
                self.hold(node.id != "_")
                self.hold(node.id in BUILTINS or not hasattr(builtins, node.id))
        for node in self.each(ast.arg):
            self.hold(not hasattr(builtins, node.arg))

    def test_local_names_are_not_those_of_imports_and_classes(self):
        for tree in self.each(ast.Module):
            barred = [
                name for node in tree.body if isinstance(node, (ast.ImportFrom, ast.ClassDef))
                for name in bound_at_top(ast.Module([node], []))
            ]
            for node in ast.walk(tree):
                if isinstance(node, ast.FunctionDef):
                    self.hold(not set(bound_in(node)) & set(barred))

    def test_methods(self):
        own = [
            method.name for _, tree in trees() for node in tree.body if isinstance(node, ast.ClassDef)
            for method in node.body if isinstance(method, ast.FunctionDef)
        ]
        for node in self.each(ast.Call):
            if isinstance(node.func, ast.Attribute):
                self.hold(node.func.attr in METHODS + own)

    def test_docstrings(self):
        for node in self.each(ast.Module, ast.ClassDef, ast.FunctionDef):
            if not getattr(node, "name", "__").startswith("__"):
                self.hold(ast.get_docstring(node))

    def test_strings_and_words(self):
        for node in self.each(ast.Constant):
            if isinstance(node.value, str):
                self.hold("%" not in node.value)
        for file, _ in trees():
            words = tokenize.generate_tokens(io.StringIO(file.read_text()).readline)
            names = [word.string for word in words if word.type == tokenize.NAME]
            with self.subTest(file=str(file.relative_to(TOP))):
                self.assertFalse(set(names) & set(WORDS))


if __name__ == "__main__":
    unittest.main()
