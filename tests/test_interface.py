import ast
import inspect
import re
import unittest
from importlib import import_module
from pathlib import Path

PACKAGE = Path(__file__).resolve().parent.parent / "tosslanes"

# What the sections say in bold, file by file.
INTERFACE = {
    "towers": {
        "is_towers": "(thing)", "top": "(towers)", "heights": "(towers)", "height_of": "(towers, key)",
        "lane": "(towers, level)", "next_key": "(towers, key, level)", "links": "(towers)", "lifted": "(towers)",
        "laid": "(towers, keys)",
    },
    "coins": {
        "most": "(rule, top)", "toss": "(coins, at, rule, top)", "coins_for": "(height, rule, top)",
        "coins_of": "(heights, rule)", "heights_of": "(coins, rule)",
    },
    "searches": {
        "steps": "(towers, key, manner, begin=None)", "cost": "(towers, key, manner, begin=None)",
        "is_in": "(towers, key)", "before": "(towers, key)", "total": "(towers, manner)", "records": "(heights)",
        "ways": "(many, index, cap, manner)",
    },
    "deeds": {
        "inserted": "(towers, key, height)", "removed": "(towers, key)", "new_links": "(one, other)",
        "run": "(history, coins, rule, manner='plain')", "stays": "(history)",
        "is_by": "(history, coins, rule, towers)", "coins_to": "(history, towers, rule)",
    },
    "chances": {
        "height_chance": "(chance, rule, height)", "top_chance": "(chance, rule, many, height)",
        "top_mean": "(chance, rule, many)", "lane_chances": "(chance, rule, many, level)",
        "links_mean": "(chance, rule, many)", "coins_chance": "(chance, rule, many, count)",
        "coins_mean": "(chance, rule, many)", "record_chances": "(chance, rule, many, sort)",
        "record_mean": "(chance, rule, many, sort)",
        "cost_chance": "(chance, rule, many, index, manner, compares)",
        "cost_above": "(chance, rule, many, index, manner, compares)",
        "cost_chances": "(chance, rule, many, index, manner)", "cost_mean": "(chance, rule, many, index, manner)",
        "cost_spread": "(chance, rule, many, index, manner)", "mean_total": "(chance, rule, many, manner)",
        "rights_mean": "(chance, rule, many, index, manner)", "downs_mean": "(chance, rule, many, index, manner)",
        "pair_chances": "(chance, rule, many, one, other, manner)",
        "pair_mean": "(chance, rule, many, one, other, manner)", "cheapest": "(chances, rule, many, manner)",
        "cut_by": "(chance, cap, many, manner)",
    },
    "ranks": {
        "spans": "(towers)", "rank": "(towers, key)", "nth": "(towers, index)", "changed_spans": "(one, other)",
        "between": "(towers, low, high)", "ranked": "(towers, first, last)",
    },
    "scores": {
        "is_scored": "(thing)", "added": "(items, name, score, height)", "dropped": "(items, name)",
        "place_of": "(items, name)", "by_scores": "(items, low, high)", "by_names": "(items, score, low, high)",
        "as_towers": "(items)",
    },
    "joins": {
        "joined": "(one, other)", "split": "(towers, key)", "cut_out": "(towers, low, high)", "union": "(one, other)",
        "both": "(one, other)", "less": "(one, other)", "join_cost": "(one, other)", "split_cost": "(towers, key)",
        "merge_steps": "(one, other)",
    },
    "fingers": {
        "finger_steps": "(towers, finger, key)", "finger_cost": "(towers, finger, key)", "walk": "(towers, keys)",
    },
    "kinds": {
        "gaps": "(towers, level)", "is_gapped": "(towers, least, most)", "gapped_sizes": "(top, least, most)",
        "gapped_count": "(many, least, most)", "put_gapped": "(towers, key)", "out_gapped": "(towers, key)",
        "branches": "(towers)", "from_branches": "(tree)", "perfect": "(keys)", "is_perfect": "(towers)",
    },
    "trees": {
        "tree_of": "(towers)", "towers_of": "(tree)", "way": "(tree, key)", "depth": "(tree, key)",
        "tree_in": "(tree, key, height)", "tree_out": "(tree, key)", "shape": "(tree)", "least_towers": "(shape)",
        "shape_chance": "(shape, chance, rule)", "shape_ways": "(shape, cap)",
    },
    "best": {
        "price": "(heights, weights, misses, manner)", "best": "(weights, misses, manner, cap)",
        "worst": "(weights, misses, manner, cap)", "luck": "(history, manner, cap)",
        "lucky_coins": "(history, manner, cap)", "fewest_heads": "(history, manner, cap, most)",
    },
    "plans": {
        "is_plan": "(thing)", "is_blind": "(plan)", "chances_of": "(plan, chance, rule)",
        "alone": "(keys, chance, rule)", "mean_after": "(plan, key, manner, chance, rule)",
        "alike": "(one, other, chance, rule)", "parting": "(history, chance, rule)",
        "looker": "(towers, keys, many, key, manner, chance, rule)",
        "blind_looker": "(towers, keys, many, key, manner, chance, cap)",
    },
    "looks": {
        "left": "(keys, seen, manner, cap)", "behind": "(keys, seen, manner, chance, cap)",
        "answers": "(keys, seen, key, manner, chance, cap)", "named": "(keys, seen, key, manner, chance, cap)",
        "next_seek": "(keys, seen, seeks, manner, chance, cap)", "untold": "(keys, seeks, manner, cap)",
        "telling": "(keys, seeks, manner, cap)",
    },
    "orders": {
        "orders": "(towers)", "order_at": "(towers, index)", "is_order": "(towers, keys)",
        "chance_in": "(towers, keys, chance, rule)", "mixed": "(towers, chance)", "top_after": "(many, chance)",
        "height_in": "(many, chance)", "reach": "(history, rule)", "deeds_for": "(towers, rule)",
        "history_for": "(towers, rule)", "tosses_mean": "(history, chance, rule)", "tosses_most": "(history, rule)",
        "strings": "(history, towers, cap)", "likeliest": "(keys, chance, rule)",
    },
    "meanwhile": {
        "writes": "(towers, act, order)", "answer": "(towers, act, order, key, manner, turns)",
        "outcomes": "(towers, act, order, key, manner)", "bad_turns": "(towers, act, order, key, manner)",
        "memory_after": "(towers, act, order, many)", "behind_all": "(towers, act, order)",
    },
    "desk": {"replayed": "(rule, manner, lines)"},
    "texts": {
        "show": "(towers)", "read": "(text)", "show_coins": "(coins)", "read_coins": "(text)",
        "show_history": "(history)", "read_history": "(text)",
    },
}
DESK = {
    "__init__": "(self, rule, manner='plain')", "say": "(self, line)", "towers": "(self)", "aside": "(self)",
    "lines": "(self)", "kept": "(self)", "spent": "(self)",
}


class InterfaceTests(unittest.TestCase):
    def test_names_and_arguments(self):
        for file, functions in INTERFACE.items():
            module = import_module(f"tosslanes.{file}")
            for name, arguments in functions.items():
                with self.subTest(file, name=name):
                    self.assertEqual(str(inspect.signature(getattr(module, name))), arguments)

    def test_each_is_defined_in_its_file(self):
        for file, functions in INTERFACE.items():
            tree = ast.parse((PACKAGE / f"{file}.py").read_text())
            defined = [node.name for node in tree.body if isinstance(node, ast.FunctionDef)]
            for name in functions:
                with self.subTest(file, name=name):
                    self.assertEqual(defined.count(name), 1)

    def test_the_class_of_the_desk(self):
        from tosslanes.desk import Desk
        tree = ast.parse((PACKAGE / "desk.py").read_text())
        classes = [node for node in tree.body if isinstance(node, ast.ClassDef) and node.name == "Desk"]
        self.assertEqual(len(classes), 1)
        self.assertEqual(Desk.__bases__, (object,))
        defined = [node.name for node in classes[0].body if isinstance(node, ast.FunctionDef)]
        for name, arguments in DESK.items():
            with self.subTest(name):
                self.assertEqual(defined.count(name), 1)
                self.assertEqual(str(inspect.signature(getattr(Desk, name))), arguments)

    def test_all_that_the_document_has_in_bold(self):
        """Where the document stands beside the project, each name in bold of its sections is in its file."""
        document = PACKAGE.parent.parent / "shared" / "DOC.md"
        if not document.exists():
            self.skipTest("no document here")
        file = None
        for line in document.read_text().splitlines():
            if line.startswith("#"):
                found = re.search(r"\(modules? (\w+)\)", line)
                file = found[1] if found else None
            for name, arguments in re.findall(r"\*\*(\w+)\(([^)]*)\)\*\*", line):
                with self.subTest(file, name=name):
                    if file == "desk" and name != "replayed":
                        self.assertIn(name, DESK)
                    else:
                        self.assertEqual(INTERFACE[file][name].replace("'", '"'), f"({arguments})")


if __name__ == "__main__":
    unittest.main()
