import unittest
from itertools import product
from random import Random

from told import LONG, Case, of_key, of_towers
from tosslanes.errors import NoJoin, NoKey, NoTowers
from tosslanes.joins import both, cut_out, join_cost, joined, less, merge_steps, split, split_cost, union
from tosslanes.towers import links, top

TOWERS = ((3, 1), (7, 3), (12, 2), (20, 1))


def small_towers(keys, cap):
    """All towers of some of the keys, with heights up to the cap."""
    for tall in product(range(cap + 1), repeat=len(keys)):
        yield tuple([(key, height) for key, height in zip(keys, tall) if height > 0])


def fresh(whole, *parts):
    """How many links of towers are links of no part."""
    return len([link for link in links(whole) if all(link not in links(part) for part in parts)])


class JoinTests(Case):
    def test_small(self):
        self.same(joined((), ()), ())
        self.same(joined([[1, 2]], [(3, 1), [4, 1]]), ((1, 2), (3, 1), (4, 1)))
        self.same(joined(other=TOWERS, one=()), TOWERS)
        self.same(joined(list(TOWERS), []), TOWERS)
        self.same(join_cost(TOWERS, ((LONG, 2),)), 2)
        self.same([join_cost((), TOWERS), join_cost(TOWERS, ()), join_cost((), ())], [0, 0, 0])

    def test_all_pairs(self):
        for one in small_towers((1, 2), 3):
            for other in small_towers((4, 5), 3):
                whole = joined(one, other)
                self.same(whole, one + other)
                self.same(join_cost(one, other), fresh(whole, one, other))
                if other:
                    self.same(split(whole, other[0][0]), (one, other))

    def test_no_join(self):
        for one, other in (
            (((3, 1),), ((3, 1),)), (((3, 1),), ((2, 1), (9, 1))), (((1, 1), (5, 1)), ((4, 1),)), (TOWERS, TOWERS),
            (((LONG, 1),), ((LONG - 1, 1),)),
        ):
            self.fails(NoJoin, {}, joined, one, other)
            self.fails(NoJoin, {}, join_cost, one, other)

    def test_wrong(self):
        for function in (joined, join_cost, union, both, less, merge_steps):
            self.refuses(function, (TOWERS, ((30, 1),)), [(0, NoTowers, of_towers()), (1, NoTowers, of_towers())])
            self.keeps(function, [[3, 1], [5, 2]], [[9, 1]])
        self.fails(NoTowers, {"index": 1}, joined, [(5, 1)], [(1, 1), (1, 1)])


class SplitTests(Case):
    def test_small(self):
        self.same(split(TOWERS, 7), (((3, 1),), ((7, 3), (12, 2), (20, 1))))
        self.same(split(TOWERS, 8), (((3, 1), (7, 3)), ((12, 2), (20, 1))))
        self.same(split(key=3, towers=[[3, 1]]), ((), ((3, 1),)))
        self.same(split(TOWERS, LONG), (TOWERS, ()))
        self.same(split((), 0), ((), ()))
        self.same([split_cost(TOWERS, 7), split_cost(TOWERS, 12), split_cost(TOWERS, 3)], [1, 2, 0])

    def test_all(self):
        for towers in small_towers((1, 3, 5), 3):
            for key in range(7):
                lower, rest = split(towers, key)
                self.same(lower, tuple([pair for pair in towers if pair[0] < key]))
                self.same(rest, tuple([pair for pair in towers if pair[0] >= key]))
                self.same(joined(lower, rest), towers)
                self.same(split_cost(towers, key), fresh(towers, lower, rest))
                self.assertEqual(split_cost(towers, key), min(top(lower), top(rest)))

    def test_wrong(self):
        for function in (split, split_cost):
            self.refuses(function, (TOWERS, 5), [(0, NoTowers, of_towers()), (1, NoKey, of_key())])
            self.keeps(function, [[3, 1], [5, 2]], 5)


class CutTests(Case):
    def test_small(self):
        self.same(cut_out(TOWERS, 4, 12), ((3, 1), (20, 1)))
        self.same(cut_out(TOWERS, 12, 4), TOWERS)
        self.same(cut_out(high=LONG, low=-LONG, towers=[[3, 1]]), ())
        self.same(cut_out((), 1, 2), ())
        for towers in small_towers((1, 3, 5), 2):
            for low, high in product(range(7), repeat=2):
                self.same(cut_out(towers, low, high), tuple([pair for pair in towers if not low <= pair[0] <= high]))

    def test_wrong(self):
        self.refuses(cut_out, (TOWERS, 5, 9), [(0, NoTowers, of_towers()), (1, NoKey, of_key()), (2, NoKey, of_key())])
        self.keeps(cut_out, [[3, 1], [5, 2]], 5, 6)


class UnionTests(Case):
    def check(self, one, other):
        mine, yours = dict(one), dict(other)
        keys = sorted({*mine, *yours})
        self.same(union(one, other), tuple([(key, mine.get(key, yours.get(key))) for key in keys]))
        self.same(both(one, other), tuple([(key, mine[key]) for key in keys if key in mine and key in yours]))
        self.same(less(one, other), tuple([(key, mine[key]) for key in keys if key in mine and key not in yours]))
        sides = {(True, True): "both", (True, False): "one", (False, True): "other"}
        self.same(merge_steps(one, other), tuple([(sides[key in mine, key in yours], key) for key in keys]))

    def test_small(self):
        self.same(union(((1, 2), (3, 1)), ((3, 5), (4, 1))), ((1, 2), (3, 1), (4, 1)))
        self.same(both(((1, 2), (3, 1)), ((3, 5), (4, 1))), ((3, 1),))
        self.same(less(((1, 2), (3, 1)), ((3, 5), (4, 1))), ((1, 2),))
        self.same(merge_steps(((1, 2), (3, 1)), ((3, 5), (4, 1))), (("one", 1), ("both", 3), ("other", 4)))
        self.same([union((), []), both([], ()), less((), ()), merge_steps([], [])], [(), (), (), ()])
        self.same(union(other=[[1, 1]], one=[[2, 2]]), ((1, 1), (2, 2)))

    def test_all_pairs(self):
        rows = list(small_towers((1, 2, 3), 2))
        for one, other in product(rows, repeat=2):
            self.check(one, other)

    def test_large(self):
        random = Random(2)
        one, other = [
            tuple([(key, random.randint(1, 64)) for key in sorted(random.sample(range(1500), 1000))]) for _ in range(2)
        ]
        self.check(one, other)


if __name__ == "__main__":
    unittest.main()
