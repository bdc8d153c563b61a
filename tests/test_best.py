import unittest
from itertools import product
from random import Random

from told import Case, no_integers, no_rows, of_history, of_manner, of_number
from tosslanes.best import best, fewest_heads, luck, lucky_coins, price, worst
from tosslanes.deeds import run
from tosslanes.errors import NoHeights, NoHistory, NoManner, NoMisses, NoNumber, NoWeights, Short
from tosslanes.searches import MANNERS, cost
from tosslanes.trees import depth, tree_of

SAMPLES = [
    [], [("seek", 1)], [("insert", 1)], [("insert", 1), ("seek", 1), ("seek", 0), ("seek", 2)],
    [("insert", 1), ("insert", 2), ("seek", 2), ("seek", 1), ("seek", 2)],
    [("insert", 2), ("insert", 1), ("seek", 2), ("remove", 2), ("seek", 2), ("seek", 1), ("insert", 2), ("seek", 2)],
    [("insert", 1), ("insert", 1), ("seek", 1), ("remove", 3), ("insert", 3), ("seek", 5), ("remove", 1), ("seek", 3)],
    [("insert", 4), ("seek", 4), ("remove", 4), ("seek", 4), ("insert", 4)],
    [("insert", 5), ("insert", 3), ("insert", 8), ("seek", 8), ("seek", 8), ("seek", 3), ("seek", 6)],
]


def summed(heights, weights, misses, manner):
    """The price, search by search."""
    towers = tuple([(2 * at + 1, height) for at, height in enumerate(heights)])
    price = sum(many * cost(towers, 2 * at + 1, manner)[2] for at, many in enumerate(weights))
    return price + sum(many * cost(towers, 2 * at, manner)[2] for at, many in enumerate(misses))


def rows_of(many, cap):
    return product(range(1, cap + 1), repeat=many)


def coins_of_history(history, cap):
    """All rows of coins that are used just up, with the price of the history by each manner."""
    many = sum(1 for word, _ in history if word == "insert")
    for length in range(many * (cap - 1) + 1):
        for coins in product((0, 1), repeat=length):
            try:
                used = run(history, coins, ("cap", cap))[1]
            except Short:
                continue
            if used == length:
                yield coins


def price_of(history, coins, manner, cap):
    costs = run(history, coins, ("cap", cap), manner)[2]
    return sum(cost[2] for (word, _), cost in zip(history, costs) if word == "seek")


class PriceTests(Case):
    def test_example(self):
        self.same(price((1, 2, 1), (1, 1, 1), (), "sharp"), 5)
        self.same(price((1, 1, 1), (1, 1, 1), (), "sharp"), 6)
        self.same(best((1, 1, 1), (), "sharp", 2)[0], 5)
        self.same(best((1, 1, 1), (), "sharp", 1), (6, (1, 1, 1)))

    def test_by_name(self):
        self.same(price(manner="plain", misses=[], weights=[1, 2], heights=[2, 1]), 9)
        self.same(best(cap=1, manner="plain", misses=[], weights=[1, 2]), (8, (1, 1)))
        self.same(worst(cap=1, manner="plain", misses=[], weights=[1, 2]), (8, (1, 1)))

    def test_search_by_search(self):
        random = Random(14)
        for many in range(1, 7):
            for heights in rows_of(many, 3):
                weights = [random.randrange(5) for _ in range(many)]
                misses = random.choice(([], [random.randrange(5) for _ in range(many + 1)]))
                for manner in MANNERS:
                    self.same(price(heights, weights, misses, manner), summed(heights, weights, misses, manner))

    def test_one_search(self):
        # Each key and each gap for itself.
        for heights in rows_of(4, 3):
            for manner in MANNERS:
                for at in range(9):
                    sought = [1 if place == at else 0 for place in range(9)]
                    found = price(heights, sought[1::2], sought[::2], manner)
                    self.same(found, summed(heights, sought[1::2], sought[::2], manner))

    def test_thirty_keys(self):
        random = Random(15)
        heights = [random.randrange(1, 65) for _ in range(30)]
        weights = [random.randrange(10 ** 30) for _ in range(30)]
        misses = [random.randrange(10 ** 30) for _ in range(31)]
        for manner in MANNERS:
            self.same(price(heights, weights, misses, manner), summed(heights, weights, misses, manner))

    def test_facts(self):
        # By plain and lean a search for a key costs what one costs for something just ahead of it.
        for heights in rows_of(4, 3):
            for manner in ("plain", "lean"):
                self.same(
                    price(heights, (3, 1, 0, 5), (), manner), price(heights, (0, 0, 0, 0), (3, 1, 0, 5, 0), manner),
                )


class BestTests(Case):
    def check(self, weights, misses, manner, cap):
        prices = [summed(heights, weights, misses, manner) for heights in rows_of(len(weights), cap)]
        for function, wanted in ((best, min(prices)), (worst, max(prices))):
            found, heights = function(weights, misses, manner, cap)
            self.same(found, wanted)
            self.assertIs(type(heights), tuple)
            self.assertEqual(len(heights), len(weights))
            self.assertTrue(all(1 <= height <= cap for height in heights))
            self.same(summed(heights, weights, misses, manner), wanted)

    def test_all_rows_of_heights(self):
        random = Random(16)
        for many, cap in ((1, 1), (1, 4), (2, 3), (3, 3), (4, 3), (5, 2), (5, 3), (4, 8)):
            for manner in MANNERS:
                for _ in range(3):
                    weights = [random.choice((0, 1, 2, 9)) for _ in range(many)]
                    misses = random.choice(([], (), [random.choice((0, 1, 5)) for _ in range(many + 1)]))
                    self.check(weights, misses, manner, cap)

    def test_one_miss(self):
        for manner in MANNERS:
            for at in range(5):
                misses = [1 if place == at else 0 for place in range(5)]
                self.check((0, 0, 0, 0), misses, manner, 3)

    def test_nothing_is_sought(self):
        for manner in MANNERS:
            self.check((0,), (), manner, 2)
            self.check((0, 0, 0), (0, 0, 0, 0), manner, 2)

    def test_caps(self):
        random = Random(17)
        weights = [random.randrange(20) for _ in range(12)]
        misses = [random.randrange(20) for _ in range(13)]
        for manner in MANNERS:
            least = [best(weights, misses, manner, cap)[0] for cap in range(1, 9)]
            greatest = [worst(weights, misses, manner, cap)[0] for cap in range(1, 9)]
            self.assertEqual(least, sorted(least, reverse=True))
            self.assertEqual(greatest, sorted(greatest))
            for cap in (1, 8):
                found = [price(function(weights, misses, manner, cap)[1], weights, misses, manner)
                         for function in (best, worst)]
                self.assertEqual(found, [least[cap - 1], greatest[cap - 1]])

    def test_sharp_is_a_best_search_tree(self):
        def least(weights):
            if not weights:
                return 0
            return sum(weights) + min(least(weights[:at]) + least(weights[at + 1:]) for at in range(len(weights)))

        random = Random(18)
        for many in range(1, 8):
            weights = [random.randrange(10) for _ in range(many)]
            found, heights = best(weights, (), "sharp", 8)
            self.same(found, least(weights))
            tree = tree_of(tuple(enumerate(heights)))
            self.same(sum(weight * depth(tree, at) for at, weight in enumerate(weights)), found)

    def test_thirty_keys(self):
        random = Random(19)
        weights = [random.randrange(100) for _ in range(30)]
        misses = [random.randrange(100) for _ in range(31)]
        for manner in MANNERS:
            low, heights = best(weights, misses, manner, 8)
            self.same(summed(heights, weights, misses, manner), low)
            high, heights = worst(weights, misses, manner, 8)
            self.same(summed(heights, weights, misses, manner), high)
            for _ in range(200):
                heights = [random.randrange(1, 9) for _ in range(30)]
                self.assertTrue(low <= price(heights, weights, misses, manner) <= high)


class LuckTests(Case):
    def test_all_coins(self):
        for history in SAMPLES:
            for cap in (1, 2, 3, 4):
                if cap == 4 and len(history) > 5:
                    continue
                rows = list(coins_of_history(history, cap))
                for manner in MANNERS:
                    prices = {coins: price_of(history, coins, manner, cap) for coins in rows}
                    least = min(prices.values())
                    self.same(luck(history, manner, cap), (least, max(prices.values())))
                    first = min([coins for coins in rows if prices[coins] == least], key=lambda row: (len(row), row))
                    self.same(lucky_coins(history, manner, cap), first)
                    for most in range(max(prices.values()) + 2):
                        heads = [sum(coins) for coins in rows if prices[coins] <= most]
                        self.same(fewest_heads(history, manner, cap, most), min(heads, default=None))

    def test_without_insertions_or_seeks(self):
        for manner in MANNERS:
            for history in ([], [("seek", 3)], [("remove", 3), ("seek", 3)]):
                self.same(luck(history, manner, 4), (0, 0))
                self.same(lucky_coins(history, manner, 4), ())
                self.same(fewest_heads(history, manner, 4, 0), 0)
            history = [("insert", 3), ("insert", 4)]
            self.same(luck(history, manner, 4), (0, 0))
            self.same(lucky_coins(history, manner, 4), (0, 0))
            self.same(lucky_coins(history, manner, 1), ())

    def test_by_name(self):
        history = [("insert", 1), ("insert", 2), ("seek", 2)]
        self.same(luck(cap=2, manner="plain", history=history), (3, 4))
        self.same(lucky_coins(cap=2, manner="plain", history=history), (0, 0))
        self.same(fewest_heads(most=3, cap=2, manner="plain", history=history), 0)

    def test_seven_insertions(self):
        seeks = [("seek", key) for key in range(-1, 8)] * 5
        history = []
        for word in ("insert", "remove"):
            for key in range(7):
                history += [(word, key)] + seeks
        for manner in MANNERS:
            least, greatest = luck(history, manner, 4)
            coins = lucky_coins(history, manner, 4)
            self.assertEqual(price_of(history, coins, manner, 4), least)
            self.same(fewest_heads(history, manner, 4, greatest), 0)
            self.same(fewest_heads(history, manner, 4, least - 1), None)
            heads = fewest_heads(history, manner, 4, least)
            self.assertLessEqual(heads, sum(coins))
        random = Random(20)
        least, greatest = luck(history, "plain", 4)
        for _ in range(20):
            # Coins enough for all insertions.
            coins = [random.randrange(2) for _ in range(50)]
            self.assertTrue(least <= price_of(history, coins, "plain", 4) <= greatest)

    def test_facts(self):
        for history in SAMPLES:
            for manner in MANNERS:
                found = [luck(history, manner, cap) for cap in (1, 2, 3, 4)]
                self.assertEqual([one for one, _ in found], sorted([one for one, _ in found], reverse=True))
                self.assertEqual([two for _, two in found], sorted([two for _, two in found]))


def of_counts(many):
    """Rows in which the element number `many` is the first one that is no integer from 0, and rows of wrong lengths."""
    wrong = no_integers() + [-1]
    rows = [([1] * many + [thing, None], {"index": many}) for thing in wrong]
    return rows + [(thing, {"index": -1}) for thing in no_rows()]


class WrongTests(Case):
    def test_wrong(self):
        weights = of_counts(0) + of_counts(2) + [([], {"index": -1}), ((), {"index": -1}), ([1] * 31, {"index": -1})]
        weights += [([1] * 31 + [-1], {"index": 31})]
        heights = of_counts(2) + [([1, 0, 0], {"index": 1}), ((1, 1), {"index": -1}), ([1] * 4, {"index": -1})]
        heights += [((), {"index": -1}), ([1, 1, 1, 0], {"index": 3}), ([-1], {"index": 0})]
        misses = of_counts(0) + of_counts(4) + [([1] * many, {"index": -1}) for many in (1, 2, 3, 5, 31)]
        self.refuses(price, ((1, 2, 1), (1, 1, 1), (), "plain"), [
            (1, NoWeights, weights), (0, NoHeights, heights), (2, NoMisses, misses), (3, NoManner, of_manner()),
        ])
        for function in (best, worst):
            self.refuses(function, ((1, 1, 1), (1, 0, 0, 1), "plain", 2), [
                (0, NoWeights, weights), (1, NoMisses, misses), (2, NoManner, of_manner()),
                (3, NoNumber, of_number(0, -1, 9)),
            ])

    def test_wrong_luck(self):
        checks = [(0, NoHistory, of_history()), (1, NoManner, of_manner()), (2, NoNumber, of_number(0, -1, 5))]
        right = ([("insert", 1), ("seek", 1)], "plain", 2)
        self.refuses(luck, right, checks)
        self.refuses(lucky_coins, right, checks)
        self.refuses(fewest_heads, right + (3,), checks + [(3, NoNumber, of_number(-1))])

    def test_kept(self):
        self.keeps(price, [1, 2], [1, 1], [0, 0, 1], "plain")
        self.keeps(best, [1, 2], [0, 0, 1], "plain", 3)
        self.keeps(worst, [1, 2], [0, 0, 1], "plain", 3)
        history = [["insert", 1], ["insert", 2], ["seek", 2]]
        self.keeps(luck, history, "plain", 3)
        self.keeps(lucky_coins, history, "plain", 3)
        self.keeps(fewest_heads, history, "plain", 3, 9)


if __name__ == "__main__":
    unittest.main()
