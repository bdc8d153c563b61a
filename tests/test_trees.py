import unittest
from fractions import Fraction
from itertools import product
from random import Random

from told import LONG, Case, nested, no_rows, of_chance, of_key, of_number, of_rule, of_towers
from tosslanes.deeds import inserted, removed
from tosslanes.errors import NoChance, NoKey, NoNumber, NoRule, NoTowers, NoTree
from tosslanes.searches import steps
from tosslanes.trees import (
    depth, least_towers, shape, shape_chance, shape_ways, towers_of, tree_in, tree_of, tree_out, way,
)

TOWERS = ((3, 1), (7, 3), (12, 2), (20, 1))
TREE = (7, 3, (3, 1, None, None), (12, 2, None, (20, 1, None, None)))
SHAPE = (7, (3, None, None), (12, None, (20, None, None)))
COMPARED = ("right", "stop", "found")


def apart(towers):
    """The tree, by taking the highest tower apart, of several the first one."""
    if not towers:
        return None
    tallest = max(height for _, height in towers)
    at = [height for _, height in towers].index(tallest)
    return towers[at] + (apart(towers[:at]), apart(towers[at + 1:]))


def bare(tree):
    return None if tree is None else (tree[0], bare(tree[2]), bare(tree[3]))


def parted(tree, key):
    """What is less than a key, and what is greater, each in the order in which it was."""
    if tree is None:
        return None, None
    other, height, left, right = tree
    if key < other:
        less, more = parted(left, key)
        return less, (other, height, more, right)
    less, more = parted(right, key)
    return (other, height, left, less), more


def put_by_words(tree, key, height):
    """Section 13: the first node on the way that is lower, or as high with a greater key, gives its place."""
    if tree is None or tree[1] < height or (tree[1] == height and tree[0] > key):
        return (key, height) + parted(tree, key)
    other, tall, left, right = tree
    if key < other:
        return other, tall, put_by_words(left, key, height), right
    return other, tall, left, put_by_words(right, key, height)


def merged(left, right):
    """Two parts in one: the higher node first, of like ones that of the left part."""
    if left is None or right is None:
        return right if left is None else left
    if left[1] >= right[1]:
        return left[:3] + (merged(left[3], right),)
    return right[:2] + (merged(left, right[2]), right[3])


def out_by_words(tree, key):
    other, height, left, right = tree
    if key == other:
        return merged(left, right)
    if key < other:
        return other, height, out_by_words(left, key), right
    return other, height, left, out_by_words(right, key)


def all_towers(many, cap):
    for heights in product(range(1, cap + 1), repeat=many):
        yield tuple([(10 * at, height) for at, height in enumerate(heights)])


def all_shapes(keys):
    """All shapes of some keys."""
    if not keys:
        return [None]
    return [
        (key, left, right) for at, key in enumerate(keys)
        for left in all_shapes(keys[:at]) for right in all_shapes(keys[at + 1:])
    ]


def as_lists(tree):
    return None if tree is None else [as_lists(part) if isinstance(part, tuple) else part for part in tree]


def height_part(chance, cap, height):
    p = Fraction(*chance)
    return p ** (height - 1) * (1 if height == cap else 1 - p)


def right_chain(many, last=None):
    tree = last
    for key in range(many, 0, -1):
        tree = (key, 1, None, tree)
    return tree


def left_chain(many, last=None):
    tree = last
    for key in range(1, many + 1):
        tree = (key, key, tree, None)
    return tree


NO_TREES = [
    (), [], (1,), (1, 1), (1, 1, None), (1, 1, None, None, None), (1, 0, None, None), (1, -1, None, None),
    (True, 1, None, None), (1, True, None, None), (1, False, None, None), ("1", 1, None, None), (1, "1", None, None),
    (None, 1, None, None), (1, None, None, None), (1, 1, (), None), (1, 1, None, ()), (1, 1, None, 0), (1, 1, 0, None),
    # Keys out of order, at once and deeper.
    (5, 2, (5, 1, None, None), None), (5, 2, (6, 1, None, None), None), (5, 2, None, (5, 1, None, None)),
    (5, 2, None, (4, 1, None, None)), (5, 3, (2, 2, None, (6, 1, None, None)), None),
    (5, 3, None, (9, 2, (5, 1, None, None), None)), (5, 3, None, (9, 2, (4, 1, None, None), None)),
    (5, 3, (2, 2, None, (5, 1, None, None)), None),
    # Left must be lower, right not higher.
    (5, 2, (3, 2, None, None), None), (5, 2, (3, 3, None, None), None), (5, 2, None, (7, 3, None, None)),
    (5, 3, (2, 2, None, (3, 3, None, None)), None), (5, 3, None, (9, 2, (7, 2, None, None), None)),
    (5, 3, None, (9, 3, (7, 4, None, None), None)), (5, 1, (3, 1, None, None), None),
    [1, 1, None, {}], {"a": 1, "b": 2, "c": 3, "d": 4}, "1234", range(4), nested(3), nested(3000),
    right_chain(3000, ()), left_chain(3000, 0), right_chain(3000, (3001, 2, None, None)),
    right_chain(3000, (3000, 1, None, None)), SHAPE, (1, None, None),
]
NO_SHAPES = [
    (), [], (1,), (1, None), (1, None, None, None), (True, None, None), ("1", None, None), (None, None, None),
    (1, (), None), (1, None, ()), (1, 0, None), (1, None, 0), (1, 2, 3), (5, (5, None, None), None),
    (5, (6, None, None), None), (5, None, (5, None, None)), (5, None, (4, None, None)),
    (5, (2, None, (5, None, None)), None), (5, None, (9, (5, None, None), None)),
    (5, (2, None, (7, None, None)), None), (5, None, (9, (4, None, None), None)), "123", {1: 1, 2: 2, 3: 3},
    range(3), nested(3), nested(3000), TREE, (1, 1, None, None),
]


def of_tree(wrong=NO_TREES):
    return [(thing, {}) for thing in wrong + [thing for thing in no_rows() if thing is not None]]


class TreeTests(Case):
    def test_example(self):
        self.same(tree_of(TOWERS), TREE)
        self.same([way(TREE, 20), way(TREE, 8)], [[7, 12, 20], [7, 12]])
        self.same(least_towers(SHAPE), ((3, 1), (7, 2), (12, 1), (20, 1)))
        self.same(shape_chance((1, None, (2, None, None)), (1, 2), ("free",)), (2, 3))

    def test_none(self):
        self.same(tree_of([]), None)
        self.same(towers_of(None), ())
        self.same([way(None, 3), depth(None, 3)], [[], 0])
        self.same([shape(None), least_towers(None)], [None, ()])
        for rule in (("free",), ("cap", 1), ("cap", 64)):
            self.same(shape_chance(None, (1, 3), rule), (1, 1))
        self.same(shape_ways(None, 12), 1)
        self.same(tree_in(None, 5, 2), (5, 2, None, None))
        self.same(tree_out((5, 2, None, None), 5), None)
        self.fails(NoKey, {"key": 5}, tree_out, None, 5)

    def test_all_small_towers(self):
        for many in range(6):
            for towers in all_towers(many, 3):
                tree = apart(towers)
                self.same(tree_of(towers), tree)
                self.same(tree_of([list(pair) for pair in towers]), tree)
                self.same(towers_of(tree), towers)
                self.same(towers_of(as_lists(tree)), towers)
                self.same(shape(tree), bare(tree))

    def test_by_name(self):
        self.same(tree_of(towers=TOWERS), TREE)
        self.same(towers_of(tree=TREE), TOWERS)
        self.same([way(key=20, tree=TREE), depth(key=20, tree=TREE)], [[7, 12, 20], 3])
        self.same(tree_in(height=1, key=4, tree=TREE), tree_of(inserted(TOWERS, 4, 1)))
        self.same(tree_out(key=7, tree=TREE), tree_of(removed(TOWERS, 7)))
        self.same([shape(tree=TREE), least_towers(shape=SHAPE)], [SHAPE, ((3, 1), (7, 2), (12, 1), (20, 1))])
        self.same(shape_chance(rule=["cap", 1], chance=[1, 2], shape=(1, None, None)), (1, 1))
        self.same(shape_ways(cap=3, shape=(1, None, None)), 3)

    def test_deep(self):
        for tree, towers in (
            (right_chain(3000), tuple([(key, 1) for key in range(1, 3001)])),
            (left_chain(3000), tuple([(key, key) for key in range(1, 3001)])),
        ):
            self.same(towers_of(tree), towers)
            self.assertEqual(depth(tree, 3000 if tree[0] == 1 else 1), 3000)
            self.assertEqual(towers_of(tree_of(towers)), towers)
            self.assertEqual(len(least_towers(shape(tree))), 3000)


class WayTests(Case):
    def test_sharp_searches_compare_the_keys_of_the_way(self):
        for many in range(5):
            for towers in all_towers(many, 3):
                tree = tree_of(towers)
                for key in range(-1, 10 * many):
                    if key % 10 in (0, 9):
                        compared = [step[-1] for step in steps(towers, key, "sharp") if step[0] in COMPARED]
                        self.same(way(tree, key), compared)
                        self.same(way(as_lists(tree), key), compared)
                        self.same(depth(tree, key), len(compared))


class ChangeTests(Case):
    def test_against_the_words_and_the_towers(self):
        for many in range(5):
            for towers in all_towers(many, 3):
                tree = apart(towers)
                for key in range(-5, 10 * many, 10):
                    for height in (1, 2, 3, 4):
                        found = tree_in(tree, key, height)
                        self.same(found, put_by_words(tree, key, height))
                        self.same(found, tree_of(inserted(towers, key, height)))
                        self.same(tree_out(found, key), tree)
                for key, _ in towers:
                    found = tree_out(as_lists(tree), key)
                    self.same(found, out_by_words(tree, key))
                    self.same(found, tree_of(removed(towers, key)))

    def test_many(self):
        random = Random(13)
        towers = tuple([(key, min(random.choice((1, 1, 2, 3, 64)), 64)) for key in range(0, 200, 2)])
        tree = tree_of(towers)
        for key in range(1, 200, 22):
            self.assertEqual(tree_in(tree, key, 2), put_by_words(tree, key, 2))
            self.assertEqual(tree_out(tree, key - 1), out_by_words(tree, key - 1))


class ShapeTests(Case):
    def test_least_towers(self):
        for many in range(5):
            keys = [10 * at for at in range(many)]
            rows = list(all_towers(many, max(many, 1)))
            for form in all_shapes(keys):
                fits = [towers for towers in rows if bare(apart(towers)) == form]
                least = tuple([(key, min(towers[at][1] for towers in fits)) for at, key in enumerate(keys)])
                self.assertIn(least, fits)
                self.same(least_towers(form), least)
                self.same(least_towers(as_lists(form)), least)

    def test_ways(self):
        for many in range(5):
            keys = [10 * at for at in range(many)]
            for cap in (1, 2, 3, 4):
                counts = {}
                for towers in all_towers(many, cap):
                    counts[bare(apart(towers))] = counts.get(bare(apart(towers)), 0) + 1
                for form in all_shapes(keys):
                    self.same(shape_ways(form, cap), counts.get(form, 0))
        keys = list(range(8))
        self.assertEqual(sum(shape_ways(form, 12) for form in all_shapes(keys)), 12 ** 8)

    def test_chances_by_caps(self):
        for many in range(5):
            keys = [10 * at for at in range(many)]
            for chance, cap in (((1, 2), 3), ((3, 6), 2), ((2, 7), 4), ((19, 20), 1)):
                parts = {}
                for towers in all_towers(many, cap):
                    one = Fraction(1)
                    for _, height in towers:
                        one *= height_part(chance, cap, height)
                    form = bare(apart(towers))
                    parts[form] = parts.get(form, 0) + one
                for form in all_shapes(keys):
                    found = shape_chance(form, chance, ("cap", cap))
                    part = Fraction(parts.get(form, 0))
                    self.same(found, (part.numerator, part.denominator))

    def test_chances_without_a_cap(self):
        for chance in ((1, 2), (2, 6), (13, 20)):
            for many in range(6):
                total = Fraction(0)
                for form in all_shapes(list(range(many))):
                    found = shape_chance(form, chance, ["free"])
                    total += Fraction(*found)
                    self.same(found, (Fraction(*found).numerator, Fraction(*found).denominator))
                    # It is what those with caps come to.
                    by_cap = Fraction(*shape_chance(form, chance, ("cap", 64)))
                    self.assertLessEqual(abs(Fraction(*found) - by_cap), many * Fraction(*chance) ** 64)
                self.assertEqual(total, 1)

    def test_two_keys(self):
        # The first key must be at least as high: 1 / (1 + p).
        for chance in ((1, 2), (1, 20), (19, 20)):
            p = Fraction(*chance)
            found = shape_chance((1, None, (2, None, None)), chance, ("free",))
            self.assertEqual(Fraction(*found), 1 / (1 + p))

    def test_ten_keys(self):
        chain = None
        for key in range(10):
            chain = (key, chain, None)
        # Each key must be lower than the one behind it.
        found = shape_chance(chain, (19, 20), ("free",))
        wanted = Fraction(1)
        for at in range(2, 11):
            wanted *= Fraction(1, 20) * Fraction(19, 20) ** (at - 1) / (1 - Fraction(19, 20) ** at)
        self.assertEqual(Fraction(*found), wanted)
        self.same(shape_ways(chain, 9), 0)
        self.same(shape_ways(chain, 12), 66)


class WrongTests(Case):
    def test_wrong(self):
        away = [(key, {"key": key}) for key in (2, 8, -LONG)]
        there = [(key, {"key": key}) for key in (3, 7, 12, 20)]
        self.refuses(tree_of, (TOWERS,), [(0, NoTowers, of_towers())])
        self.refuses(towers_of, (TREE,), [(0, NoTree, of_tree())])
        self.refuses(shape, (TREE,), [(0, NoTree, of_tree())])
        for function in (way, depth):
            self.refuses(function, (TREE, 20), [(0, NoTree, of_tree()), (1, NoKey, of_key())])
            self.fails(NoKey, {"key": True}, function, None, True)
        self.refuses(tree_in, (TREE, 8, 1), [
            (0, NoTree, of_tree()), (1, NoKey, of_key() + there), (2, NoNumber, of_number(0, -1)),
        ])
        self.refuses(tree_out, (TREE, 7), [(0, NoTree, of_tree()), (1, NoKey, of_key() + away)])

    def test_wrong_shapes(self):
        self.refuses(least_towers, (SHAPE,), [(0, NoTree, of_tree(NO_SHAPES))])
        self.refuses(shape_ways, (SHAPE, 3), [
            (0, NoTree, of_tree(NO_SHAPES)), (1, NoNumber, of_number(0, -1, 13, LONG)),
        ])
        long = None
        for key in range(30, 0, -1):
            long = (key, None, long)
        for right in (SHAPE, None, long):
            self.refuses(shape_chance, (right, (1, 2), ("cap", 1)), [
                (0, NoTree, of_tree(NO_SHAPES)), (1, NoChance, of_chance()),
                (2, NoRule, of_rule(("step",), ("step", 3))),
            ])

    def test_kept(self):
        self.keeps(tree_of, [[3, 1], [7, 3]])
        self.keeps(towers_of, [7, 3, [3, 1, None, None], None])
        self.keeps(way, [7, 3, [3, 1, None, None], None], 3)
        self.keeps(tree_in, [7, 3, [3, 1, None, None], None], 5, 2)
        self.keeps(tree_out, [7, 3, [3, 1, None, None], None], 7)
        self.keeps(shape, [7, 3, [3, 1, None, None], None])
        self.keeps(least_towers, [7, [3, None, None], None])
        self.keeps(shape_chance, [7, [3, None, None], None], [1, 2], ["free"])
        self.keeps(shape_ways, [7, [3, None, None], None], 3)


if __name__ == "__main__":
    unittest.main()
