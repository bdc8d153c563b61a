import unittest
from functools import lru_cache
from itertools import combinations, product
from random import Random

from told import LONG, Case, nested, no_integers, no_rows, odd_things, of_key, of_number, of_towers
from tosslanes.errors import NoGaps, NoKey, NoKeys, NoNumber, NoTowers, NoTree
from tosslanes.kinds import (
    branches, from_branches, gapped_count, gapped_sizes, gaps, is_gapped, is_perfect, out_gapped, perfect, put_gapped,
)
from tosslanes.searches import cost
from tosslanes.towers import lane, top

TOWERS = ((1, 1), (2, 2), (3, 1), (4, 1))
# Towers that are not gapped from 1 to 3.
UNGAPPED = [
    ((1, 2),), ((1, 1), (2, 2)), ((1, 2), (2, 1)), ((1, 1), (2, 1), (3, 1), (4, 1)), ((1, 1), (2, 3), (3, 1)),
    [[1, 1], [2, 2], [3, 1], [4, 2]], ((0, LONG),), ((1, 1), (2, LONG), (3, 1)),
]


def naive_gaps(towers, level):
    """Between any two neighbours of the lane above, the head and the end among them."""
    ends = [None] + lane(towers, level + 1) + [None]
    found = []
    for low, high in zip(ends, ends[1:]):
        keys = [key for key, height in towers if height == level]
        found.append(len([k for k in keys if (low is None or k > low) and (high is None or k < high)]))
    return found


def naive_gapped(towers, least, most):
    return all(least <= gap <= most for level in range(1, top(towers) + 1) for gap in naive_gaps(towers, level))


@lru_cache(None)
def gapped_rows(many, least=1, most=3):
    """All towers of the keys 0, 10, 20, .. (fewer than 15, so none is higher than 3) that are gapped."""
    rows = [tuple([(10 * at, height) for at, height in enumerate(tall)]) for tall in product((1, 2, 3), repeat=many)]
    return [towers for towers in rows if naive_gapped(towers, least, most)]


def put_by_words(towers, key):
    """Section 12, word by word."""
    heights = dict(towers)

    def three(level, low, high):
        return [
            k for k in sorted(heights)
            if heights[k] == level and (low is None or k > low) and (high is None or k < high)
        ]

    tall = top(towers)
    if tall and len(lane(towers, tall)) == 3:
        heights[lane(towers, tall)[1]] += 1
    for level in range(max(heights.values(), default=0) - 1, 0, -1):
        above = [k for k in sorted(heights) if heights[k] > level]
        low = max([k for k in above if k < key], default=None)
        high = min([k for k in above if k > key], default=None)
        gap = three(level, low, high)
        if len(gap) == 3:
            heights[gap[1]] = level + 1
    heights[key] = 1
    return tuple(sorted(heights.items()))


def out_by_words(towers, key):
    heights = dict(towers)
    if heights[key] > 1:
        heights[max([k for k in heights if k < key])] = heights[key]
    del heights[key]
    level = 1
    while True:
        found = tuple(sorted(heights.items()))
        wide = naive_gaps(found, level)
        if 0 not in wide:
            return found
        ends = [None] + lane(found, level + 1) + [None]
        at = wide.index(0)
        low, high = ends[at], ends[at + 1]

        def inside(first, last):
            return [
                k for k, height in found
                if height == level and (first is None or k > first) and (last is None or k < last)
            ]

        if high is not None and heights[high] == level + 1:
            gap = inside(high, ends[at + 2])
            heights[high] = level
            if len(gap) >= 2:
                heights[gap[0]] = level + 1
        elif low is not None and heights[low] == level + 1:
            gap = inside(ends[at - 1], low)
            heights[low] = level
            if len(gap) >= 2:
                heights[gap[-1]] = level + 1
        else:
            return found
        level += 1


def of_ungapped():
    return [(thing, {}) for thing in UNGAPPED]


class GapTests(Case):
    def test_small(self):
        self.same(gaps((), 1), [0])
        self.same([gaps(TOWERS, 1), gaps(TOWERS, 2), gaps(TOWERS, 3), gaps(TOWERS, LONG)], [[1, 2], [1], [0], [0]])
        self.same(gaps(level=1, towers=[[1, 3]]), [0, 0])
        self.same(gaps([[1, 3]], 2), [0, 0])
        self.same(gaps([[1, 3]], 3), [1])

    def test_all_small_towers(self):
        for many in range(6):
            for tall in product((1, 2, 3), repeat=many):
                towers = tuple(enumerate(tall))
                for level in range(1, 5):
                    self.same(gaps(towers, level), naive_gaps(towers, level))
                for least, most in ((1, 1), (1, 3), (2, 2), (2, 5), (1, 20), (20, 20)):
                    self.same(is_gapped(towers, least, most), naive_gapped(towers, least, most))

    def test_is_gapped(self):
        for least in (1, 20):
            self.same(is_gapped((), least, 20), True)
        self.same(is_gapped(most=2, least=1, towers=TOWERS), True)
        self.same(is_gapped(TOWERS, 1, 1), False)
        self.same(is_gapped(((0, LONG),), 1, 20), False)
        self.same(is_gapped([(at, 1) for at in range(20)], 20, 20), True)
        self.same(is_gapped([(at, 1) for at in range(21)], 1, 20), False)
        self.same(is_gapped([(at, 1) for at in range(1000)], 1, 20), False)

    def test_wrong(self):
        self.refuses(gaps, (TOWERS, 1), [(0, NoTowers, of_towers()), (1, NoNumber, of_number(0, -1))])
        self.refuses(is_gapped, (TOWERS, 2, 3), [
            (0, NoTowers, of_towers()), (1, NoNumber, of_number(0, -1, 21)), (2, NoNumber, of_number(0, 1, 21)),
        ])
        self.keeps(gaps, [[1, 1], [2, 2]], 1)


class SizeTests(Case):
    def test_sizes(self):
        self.same(gapped_sizes(0, 1, 3), (0, 0))
        self.same(gapped_sizes(1, 2, 5), (2, 5))
        self.same(gapped_sizes(most=3, least=1, top=2), (3, 15))
        self.same(gapped_sizes(12, 20, 20), (21 ** 12 - 1, 21 ** 12 - 1))

    def test_sizes_are_reached(self):
        sizes = {}
        for many in range(9):
            for towers in gapped_rows(many, 1, 2):
                sizes.setdefault(top(towers), []).append(many)
        self.same((min(sizes[1]), max(sizes[1])), gapped_sizes(1, 1, 2))
        self.same((min(sizes[2]), max(sizes[2])), gapped_sizes(2, 1, 2))
        self.same(min(sizes[3]), gapped_sizes(3, 1, 2)[0])

    def test_counts(self):
        for least, most in ((1, 1), (1, 2), (1, 3), (2, 2), (2, 3), (3, 20)):
            for many in range(9):
                self.same(gapped_count(many, least, most), len(gapped_rows(many, least, most)))

    def test_great_counts(self):
        self.same(gapped_count(0, 1, 1), 1)
        self.same([gapped_count(many, 1, 1) for many in (1, 2, 3, 7, 127, 128, 200)], [1, 0, 1, 1, 1, 0, 0])
        self.same([gapped_count(200, 20, 20), gapped_count(20, 20, 20)], [0, 1])
        self.assertGreater(gapped_count(200, 1, 20), 10 ** 40)
        self.assertEqual(gapped_count(most=3, least=1, many=200), self.counted(200, 1, 3))
        self.assertEqual(gapped_count(199, 2, 7), self.counted(199, 2, 7))

    def counted(self, many, least, most):
        """By the number of keys of a lane: each time a lane is laid below, gap by gap."""
        lanes = {0: 1}
        found = 0
        while lanes:
            found += lanes.get(many, 0)
            below = {}
            for keys, rows in lanes.items():
                sums = {keys: rows}
                for _ in range(keys + 1):
                    more = {}
                    for number, ways in sums.items():
                        for gap in range(least, most + 1):
                            if number + gap <= many:
                                more[number + gap] = more.get(number + gap, 0) + ways
                    sums = more
                for number, ways in sums.items():
                    below[number] = below.get(number, 0) + ways
            lanes = below
        return found

    def test_wrong(self):
        self.refuses(gapped_sizes, (3, 2, 3), [
            (0, NoNumber, of_number(-1, 13, LONG)), (1, NoNumber, of_number(0, 21)), (2, NoNumber, of_number(0, 1, 21)),
        ])
        self.refuses(gapped_count, (3, 2, 3), [
            (0, NoNumber, of_number(-1, 201, LONG)), (1, NoNumber, of_number(0, 21)),
            (2, NoNumber, of_number(0, 1, 21)),
        ])


class PutTests(Case):
    def test_examples(self):
        self.same(put_gapped(((1, 1), (2, 1), (3, 1)), 4), ((1, 1), (2, 2), (3, 1), (4, 1)))
        self.same(put_gapped((), 5), ((5, 1),))
        self.same(put_gapped(key=0, towers=[[1, 1], [2, 1]]), ((0, 1), (1, 1), (2, 1)))

    def test_all_small(self):
        for many in range(9):
            for towers in gapped_rows(many):
                for key in range(-5, 10 * many, 10):
                    found = put_gapped(towers, key)
                    self.same(found, put_by_words(towers, key))
                    self.same(is_gapped(found, 1, 3), True)

    def test_large(self):
        random = Random(11)
        towers = ()
        keys = random.sample(range(-LONG, LONG, LONG // 700), 1000)
        for at, key in enumerate(keys):
            wanted = put_by_words(towers, key) if at % 50 == 0 else None
            towers = put_gapped(towers, key)
            if wanted is not None:
                self.same(towers, wanted)
        self.same([key for key, _ in towers], sorted(keys))
        self.same(is_gapped(towers, 1, 3), True)
        for at, key in enumerate(random.sample(keys, 1000)):
            wanted = out_by_words(towers, key) if at % 50 == 0 else None
            towers = out_gapped(towers, key)
            if wanted is not None:
                self.same(towers, wanted)
                self.same(is_gapped(towers, 1, 3), True)
        self.same(towers, ())

    def test_wrong(self):
        there = [(key, {"key": key}) for key in (1, 2, 3, 4)]
        self.refuses(put_gapped, (TOWERS, 5), [
            (0, NoTowers, of_towers()), (0, NoGaps, of_ungapped()), (1, NoKey, of_key() + there),
        ])
        self.keeps(put_gapped, [[1, 1], [2, 2], [3, 1]], 5)


class OutTests(Case):
    def test_examples(self):
        self.same(out_gapped(TOWERS, 1), ((2, 1), (3, 2), (4, 1)))
        self.same(out_gapped(((1, 1),), 1), ())
        self.same(out_gapped(key=2, towers=[[1, 1], [2, 2], [3, 1]]), ((1, 1), (3, 1)))
        # The top lane is given up.
        self.same(out_gapped(((1, 1), (2, 2), (3, 1)), 1), ((2, 1), (3, 1)))
        self.same(out_gapped(((1, 1), (2, 2), (3, 1)), 3), ((1, 1), (2, 1)))

    def test_all_small(self):
        for many in range(1, 9):
            for towers in gapped_rows(many):
                for key, _ in towers:
                    found = out_gapped(towers, key)
                    self.same(found, out_by_words(towers, key))
                    self.same(is_gapped(found, 1, 3), True)
                    self.same([other for other, _ in found], [other for other, _ in towers if other != key])

    def test_wrong(self):
        away = [(key, {"key": key}) for key in (0, 5, LONG)]
        self.refuses(out_gapped, (TOWERS, 2), [
            (0, NoTowers, of_towers()), (0, NoGaps, of_ungapped()), (1, NoKey, of_key() + away),
        ])
        self.fails(NoKey, {"key": 1}, out_gapped, (), 1)
        self.keeps(out_gapped, [[1, 1], [2, 2], [3, 1]], 2)


class BranchTests(Case):
    def test_examples(self):
        self.same(branches(TOWERS), ((2,), (((1,), ()), ((3, 4), ()))))
        self.same(branches(()), None)
        self.same(branches(towers=[[1, 1], [2, 1], [3, 1]]), ((1, 2, 3), ()))
        self.same(from_branches(None), ())
        self.same(from_branches(tree=[[2], [[(1,), []], [[3, 4], ()]]]), TOWERS)

    def test_all_small(self):
        seen = set()
        for many in range(10):
            for towers in gapped_rows(many):
                tree = branches(towers)
                self.same(from_branches(tree), towers)
                self.assertNotIn(tree, seen)
                seen.add(tree)
                if tree is not None:
                    self.check(tree, top(towers), towers)

    def check(self, tree, level, towers):
        """The keys of the lane, and in each part what is between them."""
        keys, parts = tree
        self.same(keys, tuple([key for key, height in towers if height == level]))
        self.assertEqual(len(parts), 0 if level == 1 else len(keys) + 1)
        ends = [-1, *keys, LONG]
        for at, part in enumerate(parts):
            self.check(part, level - 1, tuple([pair for pair in towers if ends[at] < pair[0] < ends[at + 1]]))

    def test_large(self):
        towers = perfect(range_row(1023))
        tree = branches(towers)
        self.same(from_branches(tree), towers)

    def test_no_trees(self):
        leaf = ((1,), ())
        deep = leaf
        for at in range(3000):
            deep = ((at + 2,), (deep, ((at + 3,), ())))
        chain = leaf
        for at in range(3000):
            chain = ((at + 2,), (chain, chain))
        wrong = [
            (), [], (1,), ((1,),), ((1,), (), ()), ((), ()), ((1, 2, 3, 4), ()), ((1, 1), ()), ((2, 1), ()),
            ((1, 2, 2), ()), ((True,), ()), ((None,), ()), (("1",), ()), (1, ()), ((1,), 1), ((1,), None), (None, ()),
            ("1", ()), ((1,), ""), ((2,), (leaf,)), ((2,), (leaf, leaf)), ((2,), (leaf, None)), ((2,), (None, None)),
            ((2,), (leaf, ((3,), ()), leaf)), ((2,), (((2,), ()), ((3,), ()))), ((2,), (leaf, ((2,), ()))),
            ((2,), (((3,), ()), ((4,), ()))), ((2, 5), (leaf, ((3,), ()))), ((2, 5), (leaf, ((6,), ()), ((7,), ()))),
            ((2, 5), (leaf, ((1,), ()), ((7,), ()))),
            ((2, 5), (leaf, ((3, 5), ()), ((7,), ()))), ((2, 5), (leaf, ((2, 3), ()), ((7,), ()))),
            # Not all nodes without parts have the same depth.
            ((4,), (((2,), (leaf, ((3,), ()))), ((5,), ()))), ((4,), (((1,), ()), ((6,), (((5,), ()), ((7,), ()))))),
            ((9,), (((2, 4, 6), (leaf, ((3,), ()), ((5,), ()), ((7,), ()))), ((11,), ()))),
            ((1,), {}), ((1,), {1: 2}), ({1: 2}, ()), ({1}, ()), ((1,), range(0)), (range(1, 2), ()), ((1,), b""),
            (b"a", ()), deep, chain, nested(3000), (nested(3000), ()), ((1,), nested(3000)),
            ((1,), (nested(3000), leaf)),
            ((2,), (nested(3000), leaf)), ((nested(3000),), ()),
        ]
        for number, thing in enumerate(wrong + [thing for thing in no_rows() if thing is not None]):
            with self.subTest(number=number):
                self.fails(NoTree, {}, from_branches, thing)
        for thing in no_integers():
            self.fails(NoTree, {}, from_branches, ([thing], []))
            self.fails(NoTree, {}, from_branches, ([1, thing], []))
        for thing in odd_things():
            self.fails(NoTree, {}, from_branches, ((2,), (leaf, thing)))
            self.fails(NoTree, {}, from_branches, ((2,), (thing, ((3,), ()))))

    def test_wrong(self):
        self.refuses(branches, (TOWERS,), [(0, NoTowers, of_towers()), (0, NoGaps, of_ungapped())])
        self.keeps(branches, [[1, 1], [2, 2], [3, 1]])
        self.keeps(from_branches, [[2], [[[1], []], [[3], []]]])


def range_row(many):
    return [at * 3 for at in range(many)]


class PerfectTests(Case):
    def test_examples(self):
        self.same(perfect([5, 6, 7, 8]), ((5, 1), (6, 2), (7, 1), (8, 3)))
        self.same(perfect(()), ())
        self.same(perfect(keys=(9, -LONG, 3)), ((-LONG, 1), (3, 2), (9, 1)))

    def test_heights(self):
        for many in (1, 2, 7, 8, 1000):
            towers = perfect(range_row(many)[::-1])
            self.same([key for key, _ in towers], range_row(many))
            for rank, (_, height) in enumerate(towers):
                self.assertEqual((rank + 1) % 2 ** (height - 1), 0)
                self.assertNotEqual((rank + 1) % 2 ** height, 0)
            self.same(is_perfect(towers), True)

    def test_is_perfect(self):
        self.same(is_perfect(()), True)
        self.same(is_perfect(towers=[[1, 1], [2, 2]]), True)
        self.same([is_perfect(TOWERS), is_perfect(((1, 2),)), is_perfect(((1, 1), (2, 1)))], [False, False, False])
        for tall in product((1, 2, 3), repeat=4):
            self.same(is_perfect(tuple(enumerate(tall))), tall == (1, 2, 1, 3))

    def test_facts(self):
        for tall in range(1, 8):
            self.same(is_gapped(perfect(range_row(2 ** tall - 1)), 1, 1), True)
        for many in range(1, 9):
            for towers in gapped_rows(many):
                widest = max(max(gaps(towers, level)) for level in range(1, top(towers) + 1))
                for key, _ in towers:
                    for one in (key, key + 1, -1):
                        self.assertLessEqual(cost(towers, one, "plain")[2], (widest + 1) * top(towers) + 1)

    def test_wrong(self):
        for thing in no_rows():
            self.fails(NoKeys, {"index": -1}, perfect, thing)
        for thing in no_integers():
            self.fails(NoKeys, {"index": 2}, perfect, [4, 1, thing, None])
        for keys, index in (([1, 1], 1), ([3, 1, 2, 3, 1, None], 3), ((1, 2, None, 1), 2)):
            self.fails(NoKeys, {"index": index}, perfect, keys)
        self.refuses(is_perfect, (TOWERS,), [(0, NoTowers, of_towers())])
        self.keeps(perfect, [3, 1, 2])

    def test_combinations(self):
        for keys in combinations((0, 2, 5, 9), 3):
            self.same(perfect(keys), tuple(zip(keys, (1, 2, 1))))


if __name__ == "__main__":
    unittest.main()
