import ast
import inspect
import unittest
from importlib import import_module
from pathlib import Path

PACKAGE = Path(__file__).resolve().parent.parent / "tosslanes"

# What the sections say in bold, file by file.
INTERFACE = {
    "towers": {
        "is_towers": "(thing)", "top": "(towers)", "heights": "(towers)", "height_of": "(towers, key)",
        "lane": "(towers, level)", "next_key": "(towers, key, level)", "links": "(towers)", "lifted": "(towers)",
        "laid": "(towers, keys)",
    },
    "coins": {
        "most": "(rule, top)", "toss": "(coins, at, rule, top)", "coins_for": "(height, rule, top)",
        "coins_of": "(heights, rule)", "heights_of": "(coins, rule)",
    },
}


class InterfaceTests(unittest.TestCase):
    def test_names_and_arguments(self):
        for file, functions in INTERFACE.items():
            module = import_module(f"tosslanes.{file}")
            for name, arguments in functions.items():
                with self.subTest(file, name=name):
                    self.assertEqual(str(inspect.signature(getattr(module, name))), arguments)

    def test_each_is_defined_in_its_file(self):
        for file, functions in INTERFACE.items():
            tree = ast.parse((PACKAGE / f"{file}.py").read_text())
            defined = [node.name for node in tree.body if isinstance(node, ast.FunctionDef)]
            for name in functions:
                with self.subTest(file, name=name):
                    self.assertEqual(defined.count(name), 1)


if __name__ == "__main__":
    unittest.main()
