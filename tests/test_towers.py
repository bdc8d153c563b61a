import unittest
from itertools import combinations, product

from told import LONG, WRONG_TOWERS, Case, nested, no_integers, no_rows
from tosslanes.errors import NoKey, NoKeys, NoNumber, NoTowers
from tosslanes.towers import (
    height_of, heights, is_towers, lane, laid, lifted, links, next_key, top,
)

TOWERS = ((3, 1), (7, 3), (12, 2))
LISTS = [[3, 1], [7, 3], [12, 2]]
MIXED = [(3, 1), [7, 3], (12, 2)]
BIG = ((-LONG, 2), (LONG - 1, 1), (LONG, 64))

# Each function that takes towers, with right further arguments.
TAKERS = [
    (top, ()), (heights, ()), (height_of, (3,)), (lane, (1,)), (next_key, (None, 1)), (links, ()), (lifted, ()),
    (laid, ([],)),
]

def naive_links(towers):
    """The links, told by next_key's own words alone."""
    tall = max([height for _, height in towers], default=0)

    def follow(key, level):
        later = [k for k, h in towers if h >= level and (key is None or k > key)]
        return min(later) if later else None

    found = [(None, level, follow(None, level)) for level in range(1, tall + 1)]
    for key, height in towers:
        found += [(key, level, follow(key, level)) for level in range(1, height + 1)]
    return found


def small_towers():
    """All towers of at most three of the keys -1, 0, 4 with heights to 3."""
    for many in range(4):
        for keys in combinations((-1, 0, 4), many):
            for tall in product((1, 2, 3), repeat=many):
                yield tuple(zip(keys, tall))


class IsTowersTests(Case):
    def test_right(self):
        for thing in ((), [], TOWERS, LISTS, MIXED, tuple(LISTS), list(TOWERS), BIG, ((-5, 1), (0, 1)), ((0, LONG),)):
            with self.subTest(thing):
                self.same(is_towers(thing), True)

    def test_wrong(self):
        for thing, _ in WRONG_TOWERS:
            self.same(is_towers(thing), False)

    def test_no_row(self):
        for thing in no_rows():
            with self.subTest(thing):
                self.same(is_towers(thing), False)

    def test_parts_of_odd_types(self):
        for thing in no_integers():
            with self.subTest(thing):
                self.same(is_towers([(3, 1), thing]), False)
                self.same(is_towers([(3, 1), (thing, 1)]), False)
                self.same(is_towers([(3, 1), (4, thing)]), False)

    def test_by_name_and_unchanged(self):
        self.same(is_towers(thing=TOWERS), True)
        self.keeps(is_towers, LISTS)

    def test_many_keys(self):
        many = [(key, 1 + key % 3) for key in range(1000)]
        self.same(is_towers(many), True)
        self.same(is_towers(many[:999] + [(998, 1)]), False)


class NoTowersTests(Case):
    def test_no_row_is_told_by_minus_one(self):
        for function, more in TAKERS:
            for thing in no_rows():
                with self.subTest(function.__name__, thing=thing):
                    self.fails(NoTowers, {"index": -1}, function, thing, *more)

    def test_first_wrong_one(self):
        for function, more in TAKERS:
            for thing, index in WRONG_TOWERS:
                with self.subTest(function.__name__, index=index):
                    self.fails(NoTowers, {"index": index}, function, thing, *more)
                    self.fails(NoTowers, {"index": index}, function, tuple(thing), *more)

    def test_parts_of_odd_types(self):
        for function, more in TAKERS:
            for thing in no_integers():
                with self.subTest(function.__name__, thing=thing):
                    self.fails(NoTowers, {"index": 1}, function, [(3, 1), thing, thing], *more)
                    self.fails(NoTowers, {"index": 1}, function, [(3, 1), (thing, 1)], *more)
                    self.fails(NoTowers, {"index": 1}, function, [(3, 1), [4, thing]], *more)

    def test_it_comes_first(self):
        self.fails(NoTowers, {"index": -1}, height_of, None, None)
        self.fails(NoTowers, {"index": 0}, lane, [3], 0)
        self.fails(NoTowers, {"index": 1}, next_key, [(3, 1), (3, 1)], "no key", 0)
        self.fails(NoTowers, {"index": -1}, laid, {}, None)

    def test_no_towers(self):
        for empty in ((), []):
            self.same(top(empty), 0)
            self.same(heights(empty), ())
            self.same(height_of(empty, 3), 0)
            self.same(lane(empty, 1), [])
            self.same(next_key(empty, None, 1), None)
            self.same(next_key(empty, 3, 1), None)
            self.same(links(empty), [])
            self.same(lifted(empty), ())
            self.same(laid(empty, []), ())


class HeightTests(Case):
    def test_top(self):
        for towers in (TOWERS, LISTS, MIXED):
            self.same(top(towers), 3)
        self.same(top(BIG), 64)
        self.same(top(towers=((5, 1),)), 1)
        self.same(top(((5, 4), (6, 1))), 4)
        self.same(top(((5, 65),)), 65)
        self.keeps(top, LISTS)

    def test_heights(self):
        for towers in (TOWERS, LISTS, MIXED):
            self.same(heights(towers), (1, 3, 2))
        self.same(heights(towers=BIG), (2, 1, 64))
        self.keeps(heights, LISTS)

    def test_height_of(self):
        for towers in (TOWERS, LISTS, MIXED):
            found = [height_of(towers, key) for key in (2, 3, 4, 7, 11, 12, 13, -3, 0)]
            self.same(found, [0, 1, 0, 3, 0, 2, 0, 0, 0])
        self.same([height_of(BIG, key) for key in (-LONG, LONG - 1, LONG, LONG + 1)], [2, 1, 64, 0])
        self.same(height_of(towers=TOWERS, key=7), 3)
        self.same(height_of(((0, 2), (1, 3)), 1), 3)
        self.keeps(height_of, LISTS, 7)

    def test_height_of_no_key(self):
        for thing in no_integers():
            with self.subTest(thing):
                self.fails(NoKey, {"key": thing}, height_of, ((0, 2), (1, 3)), thing)
                self.fails(NoKey, {"key": thing}, height_of, (), thing)


class LaneTests(Case):
    def test_lane(self):
        for towers in (TOWERS, LISTS, MIXED):
            found = [lane(towers, level) for level in (1, 2, 3, 4, 64, LONG)]
            self.same(found, [[3, 7, 12], [7, 12], [7], [], [], []])
        self.same(lane(BIG, 2), [-LONG, LONG])
        self.same(lane(towers=TOWERS, level=2), [7, 12])
        self.keeps(lane, LISTS, 1)
        self.keeps(lane, [], 1)

    def test_next_key(self):
        towers = ((3, 1), (7, 3), (12, 2))
        self.same((next_key(towers, 8, 1), next_key(towers, None, 3), next_key(towers, 7, 3)), (12, 7, None))
        for towers in (TOWERS, LISTS, MIXED):
            self.same([next_key(towers, None, level) for level in (1, 2, 3, 4, LONG)], [3, 7, 7, None, None])
            self.same([next_key(towers, key, 1) for key in (2, 3, 6, 7, 11, 12, 13)], [3, 7, 7, 12, 12, None, None])
            self.same([next_key(towers, key, 2) for key in (-9, 3, 6, 7, 11, 12)], [7, 7, 7, 12, 12, None])
            self.same([next_key(towers, key, 3) for key in (3, 7, 12)], [7, None, None])
        self.same(next_key(BIG, LONG - 1, 1), LONG)
        self.same(next_key(BIG, -LONG, 2), LONG)
        self.same(next_key(towers=TOWERS, key=3, level=2), 7)
        self.same(next_key(((0, 1), (1, 1)), 0, 1), 1)
        self.same(next_key(((-1, 1), (0, 1)), None, 1), -1)
        self.keeps(next_key, LISTS, 3, 1)

    def test_next_key_of_no_key(self):
        for thing in no_integers():
            if thing is not None:
                with self.subTest(thing):
                    self.fails(NoKey, {"key": thing}, next_key, TOWERS, thing, 1)
                    self.fails(NoKey, {"key": thing}, next_key, (), thing, 0)

    def test_no_level(self):
        for thing in no_integers() + [0, -1, -LONG]:
            with self.subTest(thing):
                self.fails(NoNumber, {"value": thing}, lane, TOWERS, thing)
                self.fails(NoNumber, {"value": thing}, next_key, TOWERS, None, thing)
                self.fails(NoNumber, {"value": thing}, next_key, TOWERS, 12, thing)
                self.fails(NoNumber, {"value": thing}, lane, (), thing)


class LinksTests(Case):
    def test_example(self):
        wanted = [
            (None, 1, 3), (None, 2, 7), (None, 3, 7), (3, 1, 7), (7, 1, 12), (7, 2, 12), (7, 3, None), (12, 1, None),
            (12, 2, None),
        ]
        for towers in (TOWERS, LISTS, MIXED):
            self.same(links(towers), wanted)
        self.same(links(towers=TOWERS), wanted)

    def test_one_key(self):
        self.same(links(((LONG, 2),)), [(None, 1, LONG), (None, 2, LONG), (LONG, 1, None), (LONG, 2, None)])
        self.same(links(((0, 1),)), [(None, 1, 0), (0, 1, None)])

    def test_small_towers(self):
        for towers in small_towers():
            with self.subTest(towers):
                self.same(links(towers), naive_links(towers))
                found = links(towers)
                self.same(found, [(key, level, next_key(towers, key, level)) for key, level, _ in found])

    def test_many(self):
        towers = [(key, 1 + key * key % 64) for key in range(1000)]
        found = links(towers)
        self.same(len(found), top(towers) + sum(heights(towers)))
        self.same(found[:2], [(None, 1, 0), (None, 2, 1)])
        self.same(found[-1], (999, 1 + 999 * 999 % 64, None))

    def test_unchanged(self):
        self.keeps(links, LISTS)
        self.keeps(links, [])


class LiftedAndLaidTests(Case):
    def test_lifted(self):
        for towers in (TOWERS, LISTS, MIXED):
            self.same(lifted(towers), ((7, 2), (12, 1)))
        self.same(lifted(((7, 2), (12, 1))), ((7, 1),))
        self.same(lifted(((7, 1),)), ())
        self.same(lifted(towers=BIG), ((-LONG, 1), (LONG, 63)))
        self.keeps(lifted, LISTS)

    def test_laid(self):
        for towers in (((7, 2), (12, 1)), [[7, 2], [12, 1]]):
            self.same(laid(towers, [3]), TOWERS)
            self.same(laid(towers, (20, 3, 9)), ((3, 1), (7, 3), (9, 1), (12, 2), (20, 1)))
            self.same(laid(towers, ()), ((7, 3), (12, 2)))
        self.same(laid(towers=(), keys=[5, -5, LONG, -LONG]), ((-LONG, 1), (-5, 1), (5, 1), (LONG, 1)))
        self.same(laid(((0, 64),), []), ((0, 65),))
        self.keeps(laid, [[7, 2], [12, 1]], [9, 3])

    def test_laid_gives_towers_back(self):
        for towers in small_towers():
            low = [key for key, height in towers if height == 1]
            self.same(laid(lifted(towers), low[::-1]), towers)
            self.same(lifted(laid(towers, [7, -7])), towers)

    def test_no_keys(self):
        for thing in no_rows():
            with self.subTest(thing):
                self.fails(NoKeys, {"index": -1}, laid, TOWERS, thing)
                self.fails(NoKeys, {"index": -1}, laid, (), thing)
        for thing in no_integers():
            with self.subTest(thing):
                self.fails(NoKeys, {"index": 2}, laid, TOWERS, [1, 2, thing, thing, 1])
        towers = ((3, 1), (LONG, 3))
        wrong = [
            ([3], 0), ([LONG], 0), ([1, LONG], 1), ([1, 1], 1), ([1, 2, 1], 2), ((5, 4, 3, None), 2), ((5, None, 3), 1),
            ([9, 8, 9, 3], 2), ([9, 3, 9], 1), ([1, True], 1), ([0, False], 1), ([True], 0),
        ]
        for keys, index in wrong:
            with self.subTest(keys):
                self.fails(NoKeys, {"index": index}, laid, towers, keys)


if __name__ == "__main__":
    unittest.main()
