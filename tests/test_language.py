"""Some of the rules of the language that the package keeps to: those that can be checked at a glance."""

import ast
import builtins
import re
import unittest
from pathlib import Path

PACKAGE = Path(__file__).resolve().parent.parent / "tosslanes"
ALLOWED = """
    len range enumerate zip min max sum abs sorted reversed int str bool bytes list tuple dict set frozenset
    isinstance ord repr any all divmod iter next map super property staticmethod classmethod Exception ValueError
    TypeError KeyError IndexError LookupError ZeroDivisionError ArithmeticError OverflowError RuntimeError
    NotImplementedError AttributeError StopIteration NotImplemented
""".split()
LIBRARY = {
    "heapq": ["heappush", "heappop", "heapify", "heapreplace", "heappushpop"],
    "math": ["gcd", "lcm", "isqrt", "comb", "perm", "factorial"],
    "itertools": ["product", "combinations", "permutations"],
}
STATEMENTS = (
    ast.Global, ast.AsyncFor, ast.AsyncFunctionDef, ast.AsyncWith, ast.Await, ast.Import, ast.Div, ast.MatMult,
)


def bound_names(tree):
    """All names that a file gives a meaning to."""
    for node in ast.walk(tree):
        if isinstance(node, (ast.FunctionDef, ast.ClassDef)):
            yield node.name
        elif isinstance(node, ast.arg):
            yield node.arg
        elif isinstance(node, ast.Name) and isinstance(node.ctx, ast.Store):
            yield node.id


class LanguageTests(unittest.TestCase):
    def files(self):
        paths = sorted(PACKAGE.rglob("*.py"))
        self.assertGreater(len(paths), 1)
        return [(path.name, path.read_text()) for path in paths]

    def test_there_is_nothing_else(self):
        there = [path for path in PACKAGE.rglob("*") if "__pycache__" not in path.parts]
        self.assertEqual([path for path in there if path.suffix != ".py"], [])
        self.assertIn(PACKAGE / "__init__.py", there)

    def test_sizes_and_signs(self):
        for name, text in self.files():
            self.assertLessEqual(len(text.splitlines()), 399, name)
            self.assertLessEqual(max(map(len, text.splitlines())), 120, name)
            self.assertTrue(all(" " <= sign <= "~" or sign == "\n" for sign in text), name)
            for node in ast.walk(ast.parse(text)):
                if isinstance(node, ast.FunctionDef):
                    self.assertLessEqual(node.end_lineno - node.lineno + 1, 40, node.name)

    def test_statements(self):
        for name, text in self.files():
            for node in ast.walk(ast.parse(text)):
                self.assertNotIsInstance(node, STATEMENTS, name)
                if isinstance(node, ast.Constant):
                    self.assertNotIsInstance(node.value, (float, complex), name)

    def test_imports(self):
        for name, text in self.files():
            for node in ast.walk(ast.parse(text)):
                if isinstance(node, ast.ImportFrom):
                    with self.subTest(name, line=node.lineno):
                        self.check_import(node)

    def check_import(self, node):
        self.assertEqual(node.level, 0)
        names = [alias.name for alias in node.names]
        if node.module in LIBRARY:
            self.assertLessEqual(set(names), set(LIBRARY[node.module]))
        else:
            package, _, file = node.module.partition(".")
            self.assertEqual(package, "tosslanes")
            tree = ast.parse((PACKAGE / f"{file}.py").read_text())
            defined = [part.name for part in tree.body if isinstance(part, (ast.FunctionDef, ast.ClassDef))]
            defined += [part.targets[0].id for part in tree.body if isinstance(part, ast.Assign)]
            self.assertLessEqual(set(names), set(defined))

    def test_imports_lead_to_no_file_again(self):
        leads = {}
        for name, text in self.files():
            modules = [node.module for node in ast.walk(ast.parse(text)) if isinstance(node, ast.ImportFrom)]
            leads[name] = [module.partition(".")[2] + ".py" for module in modules if module not in LIBRARY]
        for name in leads:
            there, waiting = [], list(leads[name])
            while waiting:
                other = waiting.pop()
                if other not in there:
                    there.append(other)
                    waiting.extend(leads[other])
            self.assertNotIn(name, there)

    def test_identity(self):
        # `is` stands beside None, True and False alone.
        for name, text in self.files():
            for node in ast.walk(ast.parse(text)):
                if isinstance(node, ast.Compare):
                    for sign, thing in zip(node.ops, node.comparators):
                        if isinstance(sign, (ast.Is, ast.IsNot)):
                            self.assertIsInstance(thing, ast.Constant, name)
                            self.assertIn(thing.value, (None, True, False), name)

    def test_words_and_signs(self):
        words = "type typing enum Enum Flag Generic Protocol ABC register mro elements open input law"
        barred = re.compile(r"\b(" + words.replace(" ", "|") + r")\b")
        for name, text in self.files():
            self.assertIsNone(barred.search(text), name)
            self.assertNotIn(chr(37), text, name)

    def test_powers(self):
        # A power with an exponent that is computed is made by a loop.
        for name, text in self.files():
            for node in ast.walk(ast.parse(text)):
                if isinstance(node, (ast.BinOp, ast.AugAssign)) and isinstance(node.op, ast.Pow):
                    exponent = node.right if isinstance(node, ast.BinOp) else node.value
                    self.assertIsInstance(exponent, ast.Constant, name)
                    self.assertIn(exponent.value, range(65), name)

    def test_names_of_imports_and_classes(self):
        for name, text in self.files():
            tree = ast.parse(text)
            imports = [alias.name for node in tree.body if isinstance(node, ast.ImportFrom) for alias in node.names]
            used = [node.id for node in ast.walk(tree) if isinstance(node, ast.Name)]
            self.assertEqual([one for one in imports if one not in used], [], name)
            taken = imports + [node.name for node in tree.body if isinstance(node, ast.ClassDef)]
            again = list(bound_names(tree))
            self.assertEqual([one for one in imports if one in again], [], name)
            self.assertEqual([one for one in taken if again.count(one) > 1], [], name)

    def test_attributes(self):
        """No attribute that is assigned has the name of a method, of its class or of a builtin value."""
        barred = dir([]) + dir({}) + dir("") + dir(0) + dir(set())
        allowed = ["count", "index", "title", "find", "get", "join", "lower", "upper", "split", "strip", "copy", "add"]
        for name, text in self.files():
            for part in ast.walk(ast.parse(text)):
                if isinstance(part, ast.ClassDef):
                    methods = [node.name for node in part.body if isinstance(node, ast.FunctionDef)]
                    for node in ast.walk(part):
                        if isinstance(node, ast.Attribute) and isinstance(node.ctx, ast.Store):
                            self.assertNotIn(node.attr, methods, name)
                            self.assertTrue(node.attr in allowed or node.attr not in barred, node.attr)

    def test_builtins(self):
        there = [name for name in dir(builtins) if not name.startswith("__")]
        for file, text in self.files():
            tree = ast.parse(text)
            read = [node.id for node in ast.walk(tree) if isinstance(node, ast.Name)]
            used = [name for name in read if name in there]
            self.assertEqual([name for name in used if name not in ALLOWED], [], file)
            self.assertEqual([name for name in bound_names(tree) if name in there], [], file)


if __name__ == "__main__":
    unittest.main()
