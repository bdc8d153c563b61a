import unittest
from itertools import product
from random import Random

from told import LONG, Case, of_history, of_key, of_manner, of_number, of_rows, of_rule, of_towers
from tosslanes.coins import most, toss
from tosslanes.deeds import coins_to, inserted, is_by, new_links, removed, run, stays
from tosslanes.errors import NoCoins, NoHistory, NoKey, NoManner, NoNumber, NoRule, NoTowers, Short
from tosslanes.searches import cost
from tosslanes.towers import links, top

TOWERS = ((3, 1), (7, 3), (12, 2))
EXAMPLE = [("insert", 7), ("insert", 3), ("seek", 7), ("remove", 3)]
RULES = [("free",), ("cap", 1), ("cap", 2), ("cap", 3), ("cap", 64), ("step",), ("step", 1), ("step", 2)]
SAMPLES = [
    [], [("seek", 1)], [("remove", 1)], [("insert", 1)], [("insert", 1), ("insert", 1)],
    [("insert", 2), ("insert", 1), ("remove", 2)], [("insert", 1), ("remove", 1), ("insert", 1)],
    [("insert", 1), ("insert", 2), ("insert", 3)], [("insert", 1), ("remove", 1), ("seek", 1)],
    [("insert", 3), ("insert", 1), ("remove", 3), ("remove", 3), ("insert", 3), ("insert", 1), ("insert", 2)],
]


def rows_of_coins(greatest):
    """All rows of coins up to so many, shortest first, then as tuples are ordered."""
    for many in range(greatest + 1):
        yield from product((0, 1), repeat=many)


def played(history, coins, rule, manner):
    """run, told anew with dicts; None if the coins do not last."""
    there = {}
    used = 0
    costs = []
    for word, key in history:
        towers = tuple(sorted(there.items()))
        if word == "seek":
            costs.append(cost(towers, key, manner))
        else:
            costs.append(cost(towers, key, {"plain": "plain", "early": "plain"}.get(manner, "lean")))
        if word == "remove":
            there.pop(key, None)
        elif word == "insert" and key not in there:
            try:
                there[key], used = toss(coins, used, rule, top(towers))
            except Short:
                return None
    return tuple(sorted(there.items())), used, tuple(costs)


class InsertTests(Case):
    def test_small(self):
        self.same(inserted((), 5, 2), ((5, 2),))
        self.same(inserted(TOWERS, 1, 1), ((1, 1),) + TOWERS)
        self.same(inserted(height=4, key=8, towers=[[3, 1], (7, 3), [12, 2]]), ((3, 1), (7, 3), (8, 4), (12, 2)))
        self.same(inserted(list(TOWERS), LONG, 64), TOWERS + ((LONG, 64),))
        self.same(removed(((5, 2),), 5), ())
        self.same(removed(key=7, towers=[[3, 1], (7, 3), [12, 2]]), ((3, 1), (12, 2)))

    def test_back(self):
        for key in (-1, 0, 4, 9, 15):
            for height in (1, 3, 64):
                self.same(removed(inserted(TOWERS, key, height), key), TOWERS)
        for key, height in TOWERS:
            self.same(inserted(removed(TOWERS, key), key, height), TOWERS)

    def test_wrong(self):
        there = [(key, {"key": key}) for key in (3, 7, 12)]
        away = [(key, {"key": key}) for key in (2, 4, 13, -LONG)]
        self.refuses(inserted, (TOWERS, 5, 1), [
            (0, NoTowers, of_towers()), (1, NoKey, of_key() + there), (2, NoNumber, of_number(0, -1)),
        ])
        self.refuses(removed, (TOWERS, 7), [(0, NoTowers, of_towers()), (1, NoKey, of_key() + away)])
        self.fails(NoKey, {"key": 5}, removed, (), 5)
        self.keeps(inserted, [[3, 1]], 5, 1)
        self.keeps(removed, [[3, 1], [5, 1]], 5)


class NewLinkTests(Case):
    def test_small(self):
        self.same(new_links((), ()), [])
        self.same(new_links(TOWERS, TOWERS), [])
        self.same(new_links((), ((5, 2),)), [(None, 1, 5), (None, 2, 5), (5, 1, None), (5, 2, None)])
        self.same(new_links(other=((3, 1), (5, 1)), one=[[3, 1]]), [(3, 1, 5), (5, 1, None)])

    def test_all_pairs(self):
        rows = ((), (1,), (2,), (1, 1), (1, 2), (2, 1), (2, 2))
        towers = [tuple(enumerate(row)) for row in rows] + [((1, 1),), ((5, 3),), TOWERS]
        for one, other in product(towers, repeat=2):
            self.same(new_links(one, other), [link for link in links(other) if link not in links(one)])

    def test_insertions(self):
        for key in (-1, 5, 8, 20):
            for height in (1, 2, 3, 4, 9):
                self.assertEqual(len(new_links(TOWERS, inserted(TOWERS, key, height))), 2 * height)

    def test_wrong(self):
        self.refuses(new_links, (TOWERS, TOWERS), [(0, NoTowers, of_towers()), (1, NoTowers, of_towers())])
        self.keeps(new_links, [[3, 1]], [[3, 2]])


class RunTests(Case):
    def test_example(self):
        found = run(EXAMPLE, (1, 1, 0, 0, 1), ("free",))
        self.same(found, (((7, 3),), 4, ((0, 0, 0), (0, 2, 4), (1, 2, 5), (0, 2, 4))))

    def test_manners(self):
        history = [["insert", 7], ["insert", 3], ["seek", 7], ["seek", 8], ["insert", 7], ["remove", 9], ["remove", 3]]
        for rule in RULES:
            for manner in ("plain", "lean", "early", "sharp"):
                wanted = played(history, [1, 1, 0] * 30, rule, manner)
                self.same(run(history, [1, 1, 0] * 30, rule, manner), wanted)
        lean = run(rule=["free"], coins=(1, 1, 0, 0), manner="sharp", history=EXAMPLE)
        self.same(lean, (((7, 3),), 4, ((0, 0, 0), (0, 2, 2), (0, 0, 1), (0, 2, 3))))

    def test_samples(self):
        for history in SAMPLES:
            for rule in RULES:
                for coins in rows_of_coins(5):
                    wanted = played(history, coins, rule, "plain")
                    if wanted is None:
                        with self.assertRaises(Short):
                            run(history, coins, rule)
                    else:
                        self.same(run(history, coins, rule), wanted)

    def test_without_effect(self):
        # What is there already, or not there, wants no coin.
        self.same(run([], (), ("free",)), ((), 0, ()))
        self.same(run([("remove", 1), ("seek", 2)], (), ("step",)), ((), 0, ((0, 0, 0), (0, 0, 0))))
        self.same(run([("insert", 1), ("insert", 1)], (1, 0), ("cap", 2)), (((1, 2),), 1, ((0, 0, 0), (0, 1, 3))))
        self.same(run([("insert", 4)] * 3, (), ("step",))[:2], (((4, 1),), 0))

    def test_short(self):
        self.fails(Short, {"index": 0}, run, [("insert", 1)], (), ("free",))
        self.fails(Short, {"index": 2}, run, [("insert", 1), ("seek", 1), ("insert", 2)], (0, 1), ("free",))
        self.fails(Short, {"index": 1}, run, [("insert", 1), ("insert", 2), ("insert", 3)], (), ("step",))
        history = [("insert", 1), ("remove", 1), ("insert", 2), ("insert", 1)]
        self.fails(Short, {"index": 3}, run, history, (0, 0), ("cap", 3))

    def test_large(self):
        random = Random(4)
        history = [(random.choice(("insert", "insert", "remove", "seek")), random.randrange(300)) for _ in range(1000)]
        coins = [random.randrange(2) for _ in range(1000)]
        coins[-1] = 0
        for rule in (("free",), ("cap", 64), ("step",)):
            for manner in ("plain", "sharp"):
                self.same(run(history, coins * 2, rule, manner), played(history, coins * 2, rule, manner))

    def test_wrong(self):
        self.refuses(run, (EXAMPLE, (1, 1, 0, 0), ("free",), "plain"), [
            (0, NoHistory, of_history()), (1, NoCoins, of_rows(2, -1)), (2, NoRule, of_rule()),
            (3, NoManner, of_manner()),
        ])
        self.fails(NoManner, {}, run, [("insert", 1)], (), ("free",), "none")
        self.keeps(run, [["insert", 7], ["seek", 7]], [1, 0], ["free"], "lean")


class StayTests(Case):
    def test_small(self):
        self.same(stays([]), [])
        self.same(stays(EXAMPLE), [7])
        self.same(stays(history=[["insert", 9], ["insert", -LONG], ["insert", 9], ["remove", 4]]), [-LONG, 9])
        for history in SAMPLES:
            self.same(stays(history), [key for key, _ in run(history, [0] * 30, ("free",))[0]])

    def test_wrong(self):
        self.refuses(stays, (EXAMPLE,), [(0, NoHistory, of_history())])
        self.keeps(stays, [["insert", 9], ["insert", 1]])


class IsByTests(Case):
    def test_small(self):
        self.same(is_by([], (), ("free",), ()), True)
        self.same(is_by([], (0,), ("free",), ()), False)
        self.same(is_by(EXAMPLE, (1, 1, 0, 0), ("free",), [[7, 3]]), True)
        self.same(is_by(EXAMPLE, [1, 1, 0, 0, 1], ("free",), ((7, 3),)), False)
        self.same(is_by(EXAMPLE, [1, 1, 0], ("free",), ((7, 3),)), False)
        self.same(is_by(EXAMPLE, [1, 1, 0, 0], ("free",), ((7, 2),)), False)
        self.same(is_by(towers=(), rule=["step", 1], coins=[], history=[("insert", 2), ("remove", 2)]), True)

    def test_samples(self):
        for history in SAMPLES:
            for rule in RULES:
                for coins in rows_of_coins(4):
                    found = played(history, coins, rule, "plain")
                    fits = found is not None and found[1] == len(coins)
                    for towers in ((), ((1, 1),), ((1, 1), (2, 2)), found[0] if found else ((5, 5),)):
                        self.same(is_by(history, coins, rule, towers), fits and found[0] == towers)

    def test_wrong(self):
        self.refuses(is_by, (EXAMPLE, (1, 1, 0, 0), ("free",), ((7, 3),)), [
            (0, NoHistory, of_history()), (1, NoCoins, of_rows(2, -1)), (2, NoRule, of_rule()),
            (3, NoTowers, of_towers()),
        ])
        self.keeps(is_by, [["insert", 7]], [0], ["free"], [[7, 1]])


class CoinsToTests(Case):
    def test_small(self):
        self.same(coins_to([], (), ("free",)), ())
        self.same(coins_to([], ((1, 1),), ("free",)), None)
        self.same(coins_to(EXAMPLE, ((7, 3),), ("free",)), (1, 1, 0, 0))
        self.same(coins_to(EXAMPLE, ((7, 3),), ("cap", 3)), (1, 1, 0))
        self.same(coins_to(EXAMPLE, ((7, 3),), ("cap", 2)), None)
        self.same(coins_to(EXAMPLE, ((7, 1), (3, 1))[:1], ("cap", 1)), ())
        self.same(coins_to(rule=["cap", 2], towers=[[7, 2]], history=EXAMPLE), (1, 0))
        self.same(coins_to(EXAMPLE, ((3, 1),), ("free",)), None)
        self.same(coins_to(EXAMPLE, ((3, 1), (7, 1)), ("free",)), None)
        again = [("insert", 1), ("remove", 1), ("insert", 1), ("insert", 1)]
        self.same(coins_to(again, ((1, 2),), ("free",)), (0, 1, 0))

    def test_all_rows(self):
        for history in SAMPLES:
            keys = stays(history)
            for rule in RULES:
                if rule[0] == "step":
                    continue
                for tall in product((1, 2, 3), repeat=len(keys)):
                    towers = tuple(zip(keys, tall))
                    fits = [coins for coins in rows_of_coins(8) if is_by(history, coins, rule, towers)][:1]
                    if fits:
                        self.same(coins_to(history, towers, rule), fits[0])
                    else:
                        found = coins_to(history, towers, rule)
                        self.assertTrue(found is None or len(found) > 8)

    def test_rules(self):
        for thing, _ in of_rule(("step",), ("step", 3)):
            self.fails(NoRule, {}, coins_to, EXAMPLE, ((7, 3),), thing)
            self.fails(NoRule, {}, coins_to, EXAMPLE, ((8, 3),), thing)

    def test_wrong(self):
        self.refuses(coins_to, (EXAMPLE, ((7, 3),), ("free",)), [
            (0, NoHistory, of_history()), (1, NoTowers, of_towers()), (2, NoRule, of_rule(("step",), ("step", 3))),
        ])
        self.keeps(coins_to, [["insert", 7]], [[7, 2]], ["free"])


if __name__ == "__main__":
    unittest.main()
