import ast
import inspect
import unittest
from importlib import import_module
from pathlib import Path

PACKAGE = Path(__file__).resolve().parent.parent / "tosslanes"

# What the sections say in bold, file by file.
INTERFACE = {
    "towers": {
        "is_towers": "(thing)", "top": "(towers)", "heights": "(towers)", "height_of": "(towers, key)",
        "lane": "(towers, level)", "next_key": "(towers, key, level)", "links": "(towers)", "lifted": "(towers)",
        "laid": "(towers, keys)",
    },
    "coins": {
        "most": "(rule, top)", "toss": "(coins, at, rule, top)", "coins_for": "(height, rule, top)",
        "coins_of": "(heights, rule)", "heights_of": "(coins, rule)",
    },
    "searches": {
        "steps": "(towers, key, manner, begin=None)", "cost": "(towers, key, manner, begin=None)",
        "is_in": "(towers, key)", "before": "(towers, key)", "total": "(towers, manner)", "records": "(heights)",
        "ways": "(many, index, cap, manner)",
    },
    "deeds": {
        "inserted": "(towers, key, height)", "removed": "(towers, key)", "new_links": "(one, other)",
        "run": "(history, coins, rule, manner='plain')", "stays": "(history)",
        "is_by": "(history, coins, rule, towers)", "coins_to": "(history, towers, rule)",
    },
    "chances": {
        "height_chance": "(chance, rule, height)", "top_chance": "(chance, rule, many, height)",
        "top_mean": "(chance, rule, many)", "lane_chances": "(chance, rule, many, level)",
        "links_mean": "(chance, rule, many)", "coins_chance": "(chance, rule, many, count)",
        "coins_mean": "(chance, rule, many)", "record_chances": "(chance, rule, many, sort)",
        "record_mean": "(chance, rule, many, sort)",
        "cost_chance": "(chance, rule, many, index, manner, compares)",
        "cost_above": "(chance, rule, many, index, manner, compares)",
        "cost_chances": "(chance, rule, many, index, manner)", "cost_mean": "(chance, rule, many, index, manner)",
        "cost_spread": "(chance, rule, many, index, manner)", "mean_total": "(chance, rule, many, manner)",
        "rights_mean": "(chance, rule, many, index, manner)", "downs_mean": "(chance, rule, many, index, manner)",
        "pair_chances": "(chance, rule, many, one, other, manner)",
        "pair_mean": "(chance, rule, many, one, other, manner)", "cheapest": "(chances, rule, many, manner)",
        "cut_by": "(chance, cap, many, manner)",
    },
    "ranks": {
        "spans": "(towers)", "rank": "(towers, key)", "nth": "(towers, index)", "changed_spans": "(one, other)",
        "between": "(towers, low, high)", "ranked": "(towers, first, last)",
    },
    "scores": {
        "is_scored": "(thing)", "added": "(items, name, score, height)", "dropped": "(items, name)",
        "place_of": "(items, name)", "by_scores": "(items, low, high)", "by_names": "(items, score, low, high)",
        "as_towers": "(items)",
    },
    "joins": {
        "joined": "(one, other)", "split": "(towers, key)", "cut_out": "(towers, low, high)", "union": "(one, other)",
        "both": "(one, other)", "less": "(one, other)", "join_cost": "(one, other)", "split_cost": "(towers, key)",
        "merge_steps": "(one, other)",
    },
    "fingers": {
        "finger_steps": "(towers, finger, key)", "finger_cost": "(towers, finger, key)", "walk": "(towers, keys)",
    },
    "kinds": {
        "gaps": "(towers, level)", "is_gapped": "(towers, least, most)", "gapped_sizes": "(top, least, most)",
        "gapped_count": "(many, least, most)", "put_gapped": "(towers, key)", "out_gapped": "(towers, key)",
        "branches": "(towers)", "from_branches": "(tree)", "perfect": "(keys)", "is_perfect": "(towers)",
    },
}


class InterfaceTests(unittest.TestCase):
    def test_names_and_arguments(self):
        for file, functions in INTERFACE.items():
            module = import_module(f"tosslanes.{file}")
            for name, arguments in functions.items():
                with self.subTest(file, name=name):
                    self.assertEqual(str(inspect.signature(getattr(module, name))), arguments)

    def test_each_is_defined_in_its_file(self):
        for file, functions in INTERFACE.items():
            tree = ast.parse((PACKAGE / f"{file}.py").read_text())
            defined = [node.name for node in tree.body if isinstance(node, ast.FunctionDef)]
            for name in functions:
                with self.subTest(file, name=name):
                    self.assertEqual(defined.count(name), 1)


if __name__ == "__main__":
    unittest.main()
