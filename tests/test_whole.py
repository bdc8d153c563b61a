"""What the document promises over the whole program: its guarantees, and the rules that hold for all functions."""

import copy
import inspect
import unittest
from fractions import Fraction
from importlib import import_module
from itertools import permutations, product
from math import gcd
from random import Random

from test_interface import INTERFACE
from told import Case, spoil
from tosslanes.best import best
from tosslanes.chances import cost_chances, height_chance
from tosslanes.coins import coins_of, heights_of
from tosslanes.deeds import coins_to, inserted, is_by, removed, run
from tosslanes.desk import Desk
from tosslanes.errors import Short, Spare
from tosslanes.fingers import finger_cost, walk
from tosslanes.joins import join_cost, joined, split, split_cost
from tosslanes.kinds import branches, from_branches, out_gapped, put_gapped
from tosslanes.looks import behind
from tosslanes.meanwhile import answer, bad_turns, behind_all, memory_after, outcomes, writes
from tosslanes.orders import chance_in, reach, strings, tosses_mean
from tosslanes.plans import alone, chances_of, mean_after, parting
from tosslanes.ranks import between, nth, rank, ranked, spans
from tosslanes.searches import MANNERS, cost, is_in, steps
from tosslanes.texts import read, read_coins, read_history, show, show_coins, show_history
from tosslanes.towers import links, top
from tosslanes.trees import shape, shape_chance, towers_of, tree_in, tree_of, tree_out

RULES = [("free",), ("cap", 1), ("cap", 2), ("cap", 3), ("step",), ("step", 1), ("step", 2)]
HISTORY = [["insert", 7], ["insert", 3], ["seek", 7], ["remove", 3]]
ROW = [[3, 1], [7, 3], [12, 2]]
PLAN = [["insert", 4], ["if", 4, 2, [["tallest", "again"]], [["insert", 1]]]]
# One call of each function, with lists where rows stand.
CALLS = {
    "towers": {
        "is_towers": [ROW], "top": [ROW], "heights": [ROW], "height_of": [ROW, 7], "lane": [ROW, 2],
        "next_key": [ROW, None, 2], "links": [ROW], "lifted": [ROW], "laid": [ROW, [9, 1]],
    },
    "coins": {
        "most": [["step", 3], 1], "toss": [[1, 0, 1], 0, ["free"], 0], "coins_for": [2, ["cap", 3], 0],
        "coins_of": [[2, 1], ["free"]], "heights_of": [[1, 0], ["free"]],
    },
    "searches": {
        "steps": [ROW, 12, "lean", 2], "cost": [ROW, 12, "lean", 2], "is_in": [ROW, 12], "before": [ROW, 12],
        "total": [ROW, "early"], "records": [[1, 2, 2]], "ways": [3, 1, 2, "sharp"],
    },
    "deeds": {
        "inserted": [ROW, 5, 2], "removed": [ROW, 7], "new_links": [ROW, [[3, 1]]],
        "run": [HISTORY, [1, 0, 0], ["free"], "lean"], "stays": [HISTORY],
        "is_by": [HISTORY, [1, 0, 0], ["free"], [[7, 2]]], "coins_to": [HISTORY, [[7, 2]], ["free"]],
    },
    "chances": {
        "height_chance": [[1, 2], ["free"], 2], "top_chance": [[1, 2], ["free"], 2, 2],
        "top_mean": [[1, 2], ["free"], 2], "lane_chances": [[1, 2], ["free"], 2, 2],
        "links_mean": [[1, 2], ["free"], 2], "coins_chance": [[1, 2], ["free"], 2, 3],
        "coins_mean": [[1, 2], ["free"], 2], "record_chances": [[1, 2], ["free"], 2, "weak"],
        "record_mean": [[1, 2], ["free"], 2, "weak"], "cost_chance": [[1, 2], ["free"], 2, 1, "plain", 3],
        "cost_above": [[1, 2], ["free"], 2, 1, "plain", 3], "cost_chances": [[1, 2], ["cap", 2], 2, 1, "plain"],
        "cost_mean": [[1, 2], ["free"], 2, 1, "plain"], "cost_spread": [[1, 2], ["free"], 2, 1, "plain"],
        "mean_total": [[1, 2], ["free"], 2, "plain"], "rights_mean": [[1, 2], ["free"], 2, 1, "plain"],
        "downs_mean": [[1, 2], ["free"], 2, 1, "plain"], "pair_chances": [[1, 2], ["cap", 2], 2, 0, 1, "plain"],
        "pair_mean": [[1, 2], ["free"], 2, 0, 1, "plain"], "cheapest": [[[1, 2], [1, 3]], ["free"], 2, "plain"],
        "cut_by": [[1, 2], 2, 2, "plain"],
    },
    "ranks": {
        "spans": [ROW], "rank": [ROW, 7], "nth": [ROW, 1], "changed_spans": [ROW, [[3, 1]]], "between": [ROW, 3, 7],
        "ranked": [ROW, 0, 2],
    },
    "scores": {
        "is_scored": [[[1, "a", 1]]], "added": [[[1, "a", 1]], "b", 2, 1], "dropped": [[[1, "a", 1]], "a"],
        "place_of": [[[1, "a", 1]], "a"], "by_scores": [[[1, "a", 1]], 0, 2], "by_names": [[[1, "a", 1]], 1, "a", "b"],
        "as_towers": [[[1, "a", 1]]],
    },
    "joins": {
        "joined": [ROW, [[20, 1]]], "split": [ROW, 7], "cut_out": [ROW, 3, 7], "union": [ROW, [[4, 1]]],
        "both": [ROW, [[7, 1]]], "less": [ROW, [[7, 1]]], "join_cost": [ROW, [[20, 1]]], "split_cost": [ROW, 7],
        "merge_steps": [ROW, [[7, 1]]],
    },
    "fingers": {"finger_steps": [ROW, 4, 12], "finger_cost": [ROW, 4, 12], "walk": [ROW, [3, 12]]},
    "kinds": {
        "gaps": [ROW, 1], "is_gapped": [ROW, 1, 3], "gapped_sizes": [2, 1, 3], "gapped_count": [4, 1, 3],
        "put_gapped": [[[1, 1], [2, 1], [3, 1]], 4], "out_gapped": [[[1, 1], [2, 2], [3, 1]], 2],
        "branches": [[[1, 1], [2, 2], [3, 1]]], "from_branches": [[[2], [[[1], []], [[3], []]]]],
        "perfect": [[5, 6, 7]], "is_perfect": [ROW],
    },
    "trees": {
        "tree_of": [ROW], "towers_of": [[7, 3, [3, 1, None, None], None]], "way": [[7, 3, None, None], 9],
        "depth": [[7, 3, None, None], 9], "tree_in": [[7, 3, None, None], 9, 2], "tree_out": [[7, 3, None, None], 7],
        "shape": [[7, 3, None, None]], "least_towers": [[7, [3, None, None], None]],
        "shape_chance": [[7, [3, None, None], None], [1, 2], ["free"]], "shape_ways": [[7, None, None], 3],
    },
    "best": {
        "price": [[1, 2], [1, 1], [0, 1, 0], "plain"], "best": [[1, 1], [0, 1, 0], "plain", 2],
        "worst": [[1, 1], [0, 1, 0], "plain", 2], "luck": [HISTORY, "plain", 2],
        "lucky_coins": [HISTORY, "plain", 2], "fewest_heads": [HISTORY, "plain", 2, 9],
    },
    "plans": {
        "is_plan": [PLAN], "is_blind": [PLAN], "chances_of": [PLAN, [1, 2], ["step"]],
        "alone": [[2, 1], [1, 2], ["step"]], "mean_after": [PLAN, 4, "plain", [1, 2], ["step"]],
        "alike": [PLAN, [], [1, 2], ["step"]], "parting": [HISTORY, [1, 2], ["step"]],
        "looker": [[[1, 2]], [1, 2], 2, 1, "plain", [1, 2], ["cap", 2]],
        "blind_looker": [[[1, 2]], [1, 2], 2, 1, "plain", [1, 2], 2],
    },
    "looks": {
        "left": [[1, 2], [[1, 2]], "plain", 2], "behind": [[1, 2], [[1, 2]], "plain", [1, 2], 2],
        "answers": [[1, 2], [[1, 2]], 2, "plain", [1, 2], 2], "named": [[1, 2], [[1, 2]], 2, "plain", [1, 2], 2],
        "next_seek": [[1, 2], [[1, 2]], [1, 2], "plain", [1, 2], 2], "untold": [[1, 2], [1, 3], "plain", 2],
        "telling": [[1, 2], [1, 3], "plain", 2],
    },
    "orders": {
        "orders": [ROW], "order_at": [ROW, 0], "is_order": [ROW, [3, 12, 7]],
        "chance_in": [ROW, [3, 12, 7], [1, 2], ["step"]], "mixed": [ROW, [1, 2]], "top_after": [3, [1, 2]],
        "height_in": [3, [1, 2]], "reach": [HISTORY, ["step"]], "deeds_for": [ROW, ["step"]],
        "history_for": [ROW, ["step"]], "tosses_mean": [HISTORY, [1, 2], ["step"]],
        "tosses_most": [HISTORY, ["step"]], "strings": [HISTORY, [[7, 2]], 2], "likeliest": [[2, 1], [1, 2], ["step"]],
    },
    "meanwhile": {
        "writes": [ROW, ["insert", 5, 2], "up"], "answer": [ROW, ["remove", 7], "late", 12, "plain", [1, 0, 0]],
        "outcomes": [ROW, ["remove", 7], "late", 12, "plain"], "bad_turns": [ROW, ["remove", 7], "late", 12, "plain"],
        "memory_after": [ROW, ["insert", 5, 2], "up", 1], "behind_all": [ROW, ["insert", 5, 2], "up"],
    },
    "desk": {"replayed": [["free"], "plain", ["insert 1 0"]]},
    "texts": {
        "show": [ROW], "read": ["1 >3>"], "show_coins": [[1, 0]], "read_coins": ["10"], "show_history": [HISTORY],
        "read_history": ["seek 1"],
    },
}


def as_tuples(thing):
    return tuple(map(as_tuples, thing)) if isinstance(thing, list) else thing


def found_by(function, values, named=None):
    result = function(*values, **(named or {}))
    return result.say("count") if isinstance(result, Desk) else result


def all_towers(many, cap):
    for heights in product(range(1, cap + 1), repeat=many):
        yield tuple([(10 * at, height) for at, height in enumerate(heights)])


def fractions_in(thing):
    """What may be a fraction in a result: pairs of two integers in it."""
    if isinstance(thing, dict):
        for part in thing.values():
            yield from fractions_in(part)
    elif isinstance(thing, tuple) and len(thing) == 2 and all(type(part) is int for part in thing):
        yield thing


class RuleTests(Case):
    def setUp(self):
        self.calls = [
            (getattr(import_module(f"tosslanes.{file}"), name), values)
            for file, functions in CALLS.items() for name, values in functions.items()
        ]

    def test_each_function_is_called(self):
        names = {file: sorted(functions) for file, functions in CALLS.items()}
        self.assertEqual(names, {file: sorted(functions) for file, functions in INTERFACE.items()})

    def test_by_place_and_by_name_lists_and_tuples(self):
        for function, values in self.calls:
            with self.subTest(function.__name__):
                wanted = found_by(function, copy.deepcopy(values))
                names = list(inspect.signature(function).parameters)
                named = dict(zip(names, copy.deepcopy(values)))
                self.same(found_by(function, (), dict(reversed(named.items()))), wanted)
                self.same(found_by(function, as_tuples(values)), wanted)
                for many in range(len(values) + 1):
                    rest = dict(zip(names[many:], copy.deepcopy(values[many:])))
                    self.same(found_by(function, copy.deepcopy(values[:many]), rest), wanted)

    def test_nothing_is_changed_and_all_is_new(self):
        for function, values in self.calls:
            if function.__name__ != "replayed":
                with self.subTest(function.__name__):
                    self.keeps(function, *copy.deepcopy(values))

    def test_results_do_not_depend_on_earlier_calls(self):
        wanted = [copy.deepcopy(found_by(function, copy.deepcopy(values))) for function, values in self.calls]
        places = list(range(len(self.calls))) * 2
        Random(3).shuffle(places)
        for at in places:
            function, values = self.calls[at]
            found = found_by(function, copy.deepcopy(values))
            self.same(found, wanted[at])
            spoil(found)

    def test_fractions_are_in_lowest_terms(self):
        told = ("chances", "plans", "looks", "orders")
        for file in told:
            for name, values in CALLS[file].items():
                found = getattr(import_module(f"tosslanes.{file}"), name)(*values)
                for above, below in fractions_in(found):
                    self.assertGreaterEqual(below, 1, name)
                    self.assertEqual(gcd(above, below), 1, name)


class CoinTests(Case):
    def test_rows_of_coins_and_heights(self):
        # Guarantee 1.
        for rule in RULES:
            told = {}
            for many in range(7):
                for coins in product((0, 1), repeat=many):
                    try:
                        heights = tuple(heights_of(coins, rule))
                    except (Short, Spare):
                        continue
                    self.assertNotIn(heights, told)
                    told[heights] = coins
                    self.same(coins_of(heights, rule), coins)
            for many in range(4):
                for heights in product((1, 2, 3), repeat=many):
                    coins = coins_of(heights, rule)
                    if coins is not None and len(coins) < 7 and heights in told:
                        self.same(coins, told[heights])


class SearchTests(Case):
    def test_searches_find_what_is_there(self):
        # Guarantee 2: the costs are those of the steps, and a search ends at what is sought.
        for many in range(5):
            for towers in all_towers(many, 3):
                for key in range(-5, 10 * many + 5, 5):
                    self.same(is_in(towers, key), key in dict(towers))
                    for manner in MANNERS:
                        told = steps(towers, key, manner)
                        compared = [step for step in told if step[0] in ("right", "stop", "look", "found")]
                        self.assertEqual(cost(towers, key, manner)[2], len(compared))
                        ends = [step for step in told if step[0] in ("look", "found") and step[-1] == key]
                        self.assertEqual(bool(ends), key in dict(towers))


class BackTests(Case):
    def test_deeds_joins_and_ranks(self):
        # Guarantee 3.
        for many in range(5):
            for towers in all_towers(many, 3):
                for key in range(-5, 10 * many + 5, 10):
                    for height in (1, 2, 4):
                        self.same(removed(inserted(towers, key, height), key), towers)
                for key in range(-5, 10 * many + 6, 5):
                    one, other = split(towers, key)
                    self.same(joined(one, other), towers)
                    self.same(split_cost(towers, key), join_cost(one, other))
                    self.same(rank(towers, key)[0], len(one))
                for at, (key, height) in enumerate(towers):
                    self.same(inserted(removed(towers, key), key, height), towers)
                    self.same([nth(towers, at)[0], rank(towers, key)[0], ranked(towers, at, at + 1)], [key, at, [key]])
                self.same(sum(span for key, level, span in spans(towers) if level == 1), many + 1 if many else 0)


class ChanceTests(Case):
    def test_chances_add_up(self):
        # Guarantee 4.
        for chance in ((1, 2), (3, 7)):
            for rule in (("free",), ("cap", 3)):
                for manner in ("lean", "sharp"):
                    for many in (1, 2, 4):
                        for index in range(many):
                            found = cost_chances(chance, rule, many, index, manner)
                            self.assertEqual(sum(Fraction(*part) for part in found.values()), 1)
            for keys in ((), (1,), (3, 1, 2)):
                for rule in (("cap", 3), ("step",), ("step", 2)):
                    found = alone(keys, chance, rule)
                    self.assertEqual(sum(Fraction(*part) for part in found.values()), 1)
                    for towers, part in found.items():
                        self.same(chance_in(towers, keys, chance, rule), part)

    def test_sections_tell_the_same_chances(self):
        # Those of one key, of keys alone, of what was not seen, of costs, and of shapes.
        for cap in (1, 2, 3):
            for height in range(1, cap + 1):
                part = height_chance((2, 5), ("cap", cap), height)
                self.same(alone([4], (2, 5), ("cap", cap))[((4, height),)], part)
                self.same(behind([4], (), "plain", (2, 5), cap)[((4, height),)], part)
            chances = alone([1, 2, 3], (2, 5), ("cap", cap))
            for manner in MANNERS:
                for index in range(3):
                    costs = {}
                    shapes = {}
                    for towers, part in chances.items():
                        many = cost(towers, index + 1, manner)[2]
                        costs[many] = costs.get(many, 0) + Fraction(*part)
                        form = shape(tree_of(towers))
                        shapes[form] = shapes.get(form, 0) + Fraction(*part)
                    told = {many: (costs[many].numerator, costs[many].denominator) for many in sorted(costs)}
                    self.same(cost_chances((2, 5), ("cap", cap), 3, index, manner), told)
                    mean = sum(many * part for many, part in costs.items())
                    plan = [("insert", key) for key in (2, 3, 1)]
                    found = mean_after(plan, index + 1, manner, (2, 5), ("cap", cap))
                    self.assertEqual(Fraction(*found), mean)
                    for form, part in shapes.items():
                        self.assertEqual(Fraction(*shape_chance(form, (2, 5), ("cap", cap))), part)

    def test_blind_plans(self):
        # Guarantee 5, for caps.
        random = Random(5)
        for _ in range(60):
            history = [(random.choice(("insert", "insert", "remove")), random.randrange(4)) for _ in range(7)]
            there = {}
            for word, key in history:
                there.pop(key, None) if word == "remove" else there.setdefault(key, True)
            for cap in (1, 2, 3):
                for keys in permutations(there):
                    self.same(chances_of(history, (1, 3), ("cap", cap)), alone(keys, (1, 3), ("cap", cap)))
                self.same(parting(history, (1, 3), ("cap", cap)), None)


class TreeTests(Case):
    def test_deed_by_deed(self):
        # Guarantee 6.
        random = Random(6)
        gapped, towers, tree = (), (), None
        for _ in range(300):
            key = random.randrange(40)
            if key in dict(towers):
                gapped, towers, tree = out_gapped(gapped, key), removed(towers, key), tree_out(tree, key)
            else:
                height = random.randrange(1, 5)
                gapped, towers = put_gapped(gapped, key), inserted(towers, key, height)
                tree = tree_in(tree, key, height)
            self.same([key for key, _ in gapped], [key for key, _ in towers])
            self.same(from_branches(branches(gapped)), gapped)
            self.same(tree_of(towers), tree)
            self.same(towers_of(tree), towers)

    def test_the_best_is_best(self):
        # Guarantee 7: no towers have a lower price than the best ones, as they are sought.
        for manner in MANNERS:
            least, heights = best((1, 2, 3), (), manner, 3)
            for towers in all_towers(3, 3):
                sought = sum((at + 1) * cost(towers, key, manner)[2] for at, (key, _) in enumerate(towers))
                self.assertGreaterEqual(sought, least)
                if tuple(height for _, height in towers) == heights:
                    self.same(sought, least)


class MeanwhileTests(Case):
    def test_each_answer_is_true_in_its_time(self):
        # Guarantee 8: up for insertions, down for removals.
        random = Random(8)
        for _ in range(300):
            keys = sorted(random.sample(range(0, 60, 2), 5))
            towers = tuple([(key, random.randrange(1, 4)) for key in keys])
            if random.randrange(2):
                act, order = ("insert", random.randrange(1, 60, 2), random.randrange(1, 4)), "up"
            else:
                act, order = ("remove", random.choice(keys)), "down"
            for manner in ("plain", "early"):
                for key in (act[1], random.randrange(60)):
                    self.same(bad_turns(towers, act, order, key, manner), None)
                    self.assertTrue(all(is_true for _, is_true in outcomes(towers, act, order, key, manner)))
                    turns = [random.randrange(2) for _ in range(15)]
                    self.same(answer(towers, act, order, key, manner, turns)[1], True)

    def test_memories_are_links(self):
        # Sections 4 and 18.
        for many in range(4):
            for towers in all_towers(many, 3):
                if towers:
                    act = ("remove", towers[many // 2][0])
                    told = {(key, level): other for key, level, other in links(towers)}
                    self.assertEqual(memory_after(towers, act, "up", 0), told)
                for height in (1, 2, 3):
                    act = ("insert", 15, height)
                    new = inserted(towers, 15, height)
                    for order in ("up", "down", "late"):
                        told = {(key, level): other for key, level, other in links(new)}
                        memory = behind_all(towers, act, order)
                        self.assertEqual({place: memory[place] for place in memory if place[1] <= top(new)}, told)
                        self.assertEqual(len(writes(towers, act, order)), 2 * height)


class DeskTests(Case):
    def test_costs_of_the_sections(self):
        # Sections 6, 7, 9, 10 and 11 beside the desk.
        random = Random(9)
        for manner in MANNERS:
            desk = Desk(("free",), manner)
            for key in random.sample(range(50), 20):
                desk.say(f"insert {key} " + "1" * random.randrange(4) + "0")
            towers = desk.towers()
            for key in range(-1, 51):
                self.same(desk.say(f"seek {key}"), ("seek", int(is_in(towers, key)), cost(towers, key, manner)))
                self.same(desk.say(f"rank {key}"), ("rank",) + rank(towers, key))
                keys, paid = between(towers, key, key + 9)
                self.same(desk.say(f"range {key} {key + 9}"), ("range", tuple(keys), paid))
                self.same(desk.say(f"split {key}")[2], split_cost(towers, key))
                self.same(desk.say("join")[2], join_cost(*split(towers, key)))
                self.same(desk.towers(), towers)
                # From a finger at the head's end of the row a search goes up, and then as from the head.
                ups, rights, downs, compares = finger_cost(towers, key, key)
                self.same(walk(towers, [key]), [(ups, rights, downs, compares)])
            for at in range(20):
                self.same(desk.say(f"nth {at}"), ("nth",) + nth(towers, at))

    def test_a_desk_and_a_history(self):
        random = Random(10)
        history = [(random.choice(("insert", "insert", "remove")), random.randrange(9)) for _ in range(12)]
        for rule in (("cap", 2), ("cap", 3)):
            for towers in reach(history, rule)[:50]:
                coins = coins_to(history, towers, rule)
                self.assertTrue(is_by(history, coins, rule, towers))
                self.assertGreaterEqual(strings(history, towers, rule[1]), 1)
                desk, used = Desk(rule), 0
                for word, key in history:
                    if word == "remove":
                        desk.say(f"remove {key}")
                    elif not is_in(desk.towers(), key):
                        for many in range(4):
                            text = "".join(map(str, coins[used:used + many])) or "-"
                            if desk.say(f"insert {key} {text}")[0] == "put":
                                used += many
                                break
                self.same((desk.towers(), used), (towers, len(coins)))
                self.same(run(history, coins, rule)[0], towers)
            self.assertGreater(tosses_mean(history, (1, 2), rule)[0], 0)

    def test_texts(self):
        history = (("insert", 7), ("insert", 3), ("remove", 7))
        self.same(read_history(show_history(history)), history)
        coins = coins_to(history, ((3, 2),), ("free",))
        self.same(read_coins(show_coins(coins)), coins)
        towers = run(history, coins, ("free",))[0]
        self.same(read(show(towers)), towers)


if __name__ == "__main__":
    unittest.main()
