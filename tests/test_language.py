"""What of the language's rules can be seen mechanically, over all files of the package."""

import ast
import builtins
import os
import unittest

FOLDER = os.path.join(os.path.dirname(os.path.dirname(os.path.abspath(__file__))), "holefloors")
LIBRARY = {"heapq", "math", "itertools", "collections"}
NODES = (
    ast.AsyncFunctionDef, ast.Global, ast.Await, ast.Div, ast.Set, ast.Yield, ast.YieldFrom, ast.GeneratorExp,
    ast.ImportFrom, ast.Import,
)
BUILTINS = set(
    "len range enumerate zip min max sum abs sorted reversed int str bool list tuple dict set isinstance ord repr "
    "any all divmod map Exception ValueError TypeError KeyError IndexError LookupError".split()
)
METHODS = set(
    "append clear copy count endswith extend find get index insert isalnum isalpha isdigit islower isspace isupper "
    "items join keys ljust lower lstrip partition pop remove replace reverse rfind rjust rpartition rsplit rstrip "
    "setdefault split splitlines startswith strip update upper values zfill bit_length add discard".split()
)
BARRED = ("type", "typing", "enum", "Generic", "Protocol", "dataclass", "overload", "contextmanager", "_wall")


def sources():
    """Pairs (file name, text) of the files of the package."""
    found = []
    for name in sorted(os.listdir(FOLDER)):
        if name != "__pycache__":
            with open(os.path.join(FOLDER, name), "rb") as file:
                found.append((name, file.read().decode("ascii")))
    return found


def names_bound(tree):
    """All names that parameters, assignments, loops and comprehensions bind."""
    found = set()
    for node in ast.walk(tree):
        if isinstance(node, ast.arg):
            found.add(node.arg)
        elif isinstance(node, ast.Name) and not isinstance(node.ctx, ast.Load):
            found.add(node.id)
    return found


def defined(tree):
    return {node.name for node in ast.walk(tree) if isinstance(node, (ast.FunctionDef, ast.ClassDef))}


class LanguageTest(unittest.TestCase):
    def test_files(self):
        self.assertLessEqual(len(sources()), 100)
        for name, text in sources():
            self.assertTrue(name.endswith(".py") and name == name.lower(), name)
            lines = text.split("\n")
            self.assertLessEqual(len(lines), 400, name)
            self.assertLessEqual(max(len(line) for line in lines), 120, name)
            self.assertTrue(all(sign == "\n" or " " <= sign <= "~" for sign in text), name)

    def test_functions(self):
        for name, text in sources():
            for node in ast.walk(ast.parse(text)):
                if isinstance(node, (ast.FunctionDef, ast.ClassDef)):
                    self.assertEqual(node.decorator_list, [], (name, node.name))
                if isinstance(node, ast.FunctionDef):
                    self.assertLessEqual(node.end_lineno - node.lineno + 1, 40, (name, node.name))
                    self.assertIsNotNone(ast.get_docstring(node) or node.name == "__init__", (name, node.name))

    def test_module_level(self):
        allowed = (ast.Expr, ast.ImportFrom, ast.FunctionDef, ast.ClassDef, ast.Assign)
        for name, text in sources():
            tree = ast.parse(text)
            bound = []
            for node in tree.body:
                self.assertIsInstance(node, allowed, name)
                if isinstance(node, (ast.FunctionDef, ast.ClassDef)):
                    bound.append(node.name)
                elif isinstance(node, ast.ImportFrom):
                    bound += [alias.name for alias in node.names]
                elif isinstance(node, ast.Assign):
                    self.assertIsInstance(node.value, (ast.Constant, ast.Tuple, ast.Dict), name)
                    bound += [target.id for target in node.targets]
            self.assertEqual(len(bound), len(set(bound)), name)

    def test_imports(self):
        reached = {}
        for name, text in sources():
            tree = ast.parse(text)
            reached[name[:-3]] = set()
            imported = set()
            for node in ast.walk(tree):
                self.assertNotIsInstance(node, ast.Import, name)
                if isinstance(node, ast.ImportFrom):
                    self.assertEqual(node.level, 0, name)
                    imported |= {alias.name for alias in node.names}
                    if node.module not in LIBRARY:
                        package, file_name = node.module.split(".")
                        self.assertEqual(package, "holefloors", name)
                        reached[name[:-3]].add(file_name)
            bound = names_bound(tree)
            classes = {node.name for node in ast.walk(tree) if isinstance(node, ast.ClassDef)}
            self.assertEqual(bound & (imported | classes), set(), name)
            self.assertEqual((bound | defined(tree)) & set(dir(builtins)), set(), name)
            used = {node.id for node in ast.walk(tree) if isinstance(node, ast.Name)}
            self.assertEqual(imported - used, set(), name)
        for _ in reached:
            for name in reached:
                reached[name] |= set().union(*[reached[other] for other in reached[name]])
        for name in reached:
            self.assertNotIn(name, reached[name])

    def test_names_and_nodes(self):
        own, methods = set(), set(METHODS)
        for _, text in sources():
            own |= defined(ast.parse(text))
            for node in ast.walk(ast.parse(text)):
                if isinstance(node, ast.ClassDef):
                    methods |= {part.name for part in node.body if isinstance(part, ast.FunctionDef)}
        for name, text in sources():
            tree = ast.parse(text)
            known = names_bound(tree) | own | BUILTINS
            known |= {alias.name for node in ast.walk(tree) if isinstance(node, ast.ImportFrom) for alias in node.names}
            for node in ast.walk(tree):
                if not isinstance(node, ast.ImportFrom):
                    self.assertNotIsInstance(node, NODES, (name, getattr(node, "lineno", 0)))
                if isinstance(node, ast.Name):
                    self.assertIn(node.id, known, name)
                    self.assertNotIn(node.id, BARRED, name)
                if isinstance(node, ast.Constant):
                    self.assertNotIsInstance(node.value, (float, complex), name)
                if isinstance(node, ast.Call) and isinstance(node.func, ast.Attribute):
                    inits = node.func.attr == "__init__"
                    self.assertTrue(inits or node.func.attr in methods, (name, node.func.attr))
                if isinstance(node, ast.Starred):
                    self.assertIsInstance(node.value, ast.Name, (name, node.lineno))
                if isinstance(node, ast.Name) and node.id == "_":
                    self.assertIsInstance(node.ctx, ast.Store, (name, node.lineno))
                if isinstance(node, ast.Compare):
                    for sign, side in zip(node.ops, node.comparators):
                        if isinstance(sign, (ast.Is, ast.IsNot)):
                            self.assertIsInstance(side, ast.Constant, (name, node.lineno))

    def test_sets_stay_in_place(self):
        for name, text in sources():
            tree = ast.parse(text)
            fit = set()
            for node in ast.walk(tree):
                if isinstance(node, ast.Call) and isinstance(node.func, ast.Name):
                    if node.func.id in ("sorted", "len"):
                        fit |= {id(part) for part in ast.walk(node)}
            for node in ast.walk(tree):
                if isinstance(node, ast.SetComp):
                    self.assertIn(id(node), fit, (name, node.lineno))


if __name__ == "__main__":
    unittest.main()
