import unittest
from itertools import permutations, product
from random import Random

from told import LONG, Case, nested, no_integers, no_rows, odd_things, of_key, of_number
from tosslanes.errors import NoItems, NoKey, NoName, NoNumber
from tosslanes.scores import added, as_towers, by_names, by_scores, dropped, is_scored, place_of
from tosslanes.searches import cost

ITEMS = ((-5, "zoe", 1), (10, "ann", 2), (10, "bob", 1), (10, "bobby", 4), (12, "al", 1))
WRONG_ITEMS = [
    ([(1, "a")], 0), ([(1, "a", 1, 1)], 0), ([()], 0), ([[]], 0), ([(True, "a", 1)], 0), ([("1", "a", 1)], 0),
    ([(1, "", 1)], 0), ([(1, "abcdefghi", 1)], 0), ([(1, "A", 1)], 0), ([(1, "a b", 1)], 0), ([(1, "a1", 1)], 0),
    ([(1, b"a", 1)], 0), ([(1, ["a"], 1)], 0), ([(1, None, 1)], 0), ([(1, "a", 0)], 0), ([(1, "a", -1)], 0),
    ([(1, "a", True)], 0), ([(1, "a", "1")], 0), ([(None, "a", 1)], 0), ([5], 0), (["abc"], 0), ([nested(3000)], 0),
    ([(1, "`", 1)], 0), ([(1, "{", 1)], 0), ([("a", 1, 1)], 0),
    ([(1, "a", 1), (1, "a", 1)], 1), ([(1, "a", 1), (2, "a", 1)], 1), ([(2, "a", 1), (1, "b", 1)], 1),
    ([(1, "b", 1), (1, "a", 1)], 1), ([(1, "ab", 1), (1, "a", 1)], 1), ([(1, "a", 1), (2, "b", 1), (3, "a", 1)], 2),
    ([(1, "a", 1), (0, "b", 1), None], 1), ([(1, "a", 1), None, (0, "b", 1)], 1), ([(1, "a", 1), 7], 1),
]


def of_items():
    return [(thing, {"index": index}) for thing, index in WRONG_ITEMS] + [(thing, {"index": -1}) for thing in no_rows()]


def of_name(*wrong):
    things = odd_things() + ["", "abcdefghi", "A", "a b", "a1", "a\n", "`", "{", 0, 1, [], ["a"], ("a",), nested(3000)]
    return [(thing, {"name": thing}) for thing in things + list(wrong)]


class IsScoredTests(Case):
    def test_right(self):
        for thing in ((), [], ITEMS, list(ITEMS), [list(item) for item in ITEMS], [(LONG, "abcdefgh", LONG)]):
            self.same(is_scored(thing), True)
        self.same(is_scored(thing=[(1, "b", 1), (2, "a", 1)]), True)

    def test_wrong(self):
        for thing, _ in of_items():
            self.same(is_scored(thing), False)


class AddTests(Case):
    def test_small(self):
        self.same(added((), "a", 5, 2), ((5, "a", 2),))
        self.same(added(ITEMS, "bo", 10, 3), ITEMS[:2] + ((10, "bo", 3),) + ITEMS[2:])
        self.same(added(height=3, score=LONG, name="zed", items=list(ITEMS)), ITEMS + ((LONG, "zed", 3),))
        # With the same score it stays as it is, with another one it is put in anew.
        self.same(added([list(item) for item in ITEMS], "ann", 10, 9), ITEMS)
        self.same(added(ITEMS, "ann", 11, 9), (ITEMS[0],) + ITEMS[2:4] + ((11, "ann", 9), ITEMS[4]))
        self.same(added(ITEMS, "ann", -LONG, 1), ((-LONG, "ann", 1), ITEMS[0]) + ITEMS[2:])

    def test_any_order(self):
        wanted = tuple(sorted(ITEMS))
        for order in permutations(ITEMS):
            items = ()
            for score, name, height in order:
                items = added(items, name, score + 1, 1)
                items = added(items, name, score, height)
                self.same(is_scored(items), True)
            self.same(items, wanted)

    def test_wrong(self):
        self.refuses(added, (ITEMS, "bo", 3, 1), [
            (0, NoItems, of_items()), (1, NoName, of_name()), (2, NoKey, of_key()), (3, NoNumber, of_number(0, -1)),
        ])
        # Also where nothing would change.
        self.fails(NoNumber, {"value": 0}, added, ITEMS, "ann", 10, 0)
        self.keeps(added, [[1, "a", 1]], "b", 2, 2)
        self.keeps(added, [[1, "a", 1]], "a", 1, 2)


class DropTests(Case):
    def test_small(self):
        for at, (_, name, _) in enumerate(ITEMS):
            self.same(dropped(ITEMS, name), ITEMS[:at] + ITEMS[at + 1:])
        self.same(dropped(name="a", items=[[1, "a", 1]]), ())

    def test_wrong(self):
        self.refuses(dropped, (ITEMS, "ann"), [(0, NoItems, of_items()), (1, NoName, of_name("an", "annn", "zz"))])
        self.fails(NoName, {"name": "ann"}, dropped, (), "ann")
        self.keeps(dropped, [[1, "a", 1], [2, "b", 1]], "b")


class PlaceTests(Case):
    def test_small(self):
        for at, (_, name, _) in enumerate(ITEMS):
            self.same(place_of(ITEMS, name), (at, 4 - at))
        self.same(place_of(ITEMS, "an"), None)
        self.same(place_of((), "a"), None)
        self.same(place_of(name="a", items=[[1, "a", 1]]), (0, 0))

    def test_wrong(self):
        self.refuses(place_of, (ITEMS, "ann"), [(0, NoItems, of_items()), (1, NoName, of_name())])
        self.keeps(place_of, [[1, "a", 1]], "a")


class ScoreTests(Case):
    def test_small(self):
        self.same(by_scores(ITEMS, 10, 11), ["ann", "bob", "bobby"])
        self.same(by_scores(ITEMS, -LONG, LONG), ["zoe", "ann", "bob", "bobby", "al"])
        self.same(by_scores(high=12, low=12, items=list(ITEMS)), ["al"])
        self.same([by_scores(ITEMS, 12, 10), by_scores((), 0, 9), by_scores(ITEMS, -4, 9)], [[], [], []])

    def test_wrong(self):
        self.refuses(by_scores, (ITEMS, 1, 9), [(0, NoItems, of_items()), (1, NoKey, of_key()), (2, NoKey, of_key())])
        self.keeps(by_scores, [[1, "a", 1], [2, "b", 1]], 0, 3)


class NameTests(Case):
    def test_small(self):
        self.same(by_names(ITEMS, 10, "ann", "bob"), ["ann", "bob"])
        self.same(by_names(ITEMS, 10, "", "~"), ["ann", "bob", "bobby"])
        self.same(by_names(ITEMS, 10, "bob ", "bobz"), ["bobby"])
        self.same(by_names(high="{", low="Z", score=10, items=list(ITEMS)), ["ann", "bob", "bobby"])
        self.same(by_names(ITEMS, 10, "b", "a"), [])
        self.same([by_names(ITEMS, 11, "", "~"), by_names((), 1, "a", "b")], [[], []])

    def test_bounds(self):
        bounds = ["", " ", "A", "a", "an", "ann", "ann ", "anna", "b", "bob", "bobby", "bobbyy", "z" * 20, "~", "10"]
        for low, high in product(bounds, repeat=2):
            wanted = [name for score, name, _ in ITEMS if score == 10 and low <= name and name <= high]
            self.same(by_names(ITEMS, 10, low, high), wanted)

    def test_wrong(self):
        bounds = [(thing, {"name": thing}) for thing in odd_things() + [0, 1, [], ["a"], ("a",)]]
        self.refuses(by_names, (ITEMS, 10, "a", "b"), [
            (0, NoItems, of_items()), (1, NoKey, of_key()), (2, NoName, bounds), (3, NoName, bounds),
        ])
        self.keeps(by_names, [[1, "a", 1], [1, "b", 1]], 1, "a", "z")


class TowerTests(Case):
    def test_small(self):
        self.same(as_towers(()), ())
        self.same(as_towers(items=ITEMS), ((0, 1), (1, 2), (2, 1), (3, 4), (4, 1)))
        self.same(as_towers([[LONG, "a", 64]]), ((0, 64),))

    def test_large(self):
        random = Random(8)
        letters = "abcdefghijklmnopqrstuvwxyz"
        items = ()
        for at in range(1000):
            name = letters[at % 26] + letters[at // 26 % 26] + letters[at // 676]
            items += ((random.randrange(100), name, random.choice((1, 1, 2, 5))),)
        items = tuple(sorted(items))
        for at in (0, 500, 999):
            self.same(place_of(items, items[at][1]), (at, 999 - at))
            self.assertGreater(cost(as_towers(items), at, "plain")[2], 1)
        self.same(added(dropped(items, items[7][1]), items[7][1], items[7][0], items[7][2]), items)

    def test_wrong(self):
        self.refuses(as_towers, (ITEMS,), [(0, NoItems, of_items())])
        for thing in no_integers():
            self.fails(NoItems, {"index": 0}, as_towers, [(thing, "a", 1)])
            self.fails(NoItems, {"index": 1}, as_towers, [(1, "a", 1), (2, "b", thing)])
        self.keeps(as_towers, [[1, "a", 1]])


if __name__ == "__main__":
    unittest.main()
