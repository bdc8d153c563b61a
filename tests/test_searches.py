import unittest
from itertools import product
from random import Random

from told import LONG, Case, no_integers, no_rows, of_key, of_manner, of_number, of_towers
from tosslanes.errors import NoHeights, NoKey, NoManner, NoNumber, NoTowers
from tosslanes.searches import before, cost, is_in, records, steps, total, ways
from tosslanes.towers import next_key, top

TOWERS = ((3, 1), (7, 3), (12, 2), (20, 1))
MANNERS = ("plain", "lean", "early", "sharp")


def small_towers(many, cap):
    """All towers of the keys 1, 3, 5, .., of up to so many, with heights up to the cap."""
    for number in range(many + 1):
        for tall in product(range(1, cap + 1), repeat=number):
            yield tuple([(2 * at + 1, height) for at, height in enumerate(tall)])


def walked(towers, key, manner, begin=None):
    """The steps, as section 6 tells them in words, by next_key."""
    found = []
    at = None
    left_at = None
    level = top(towers) if begin is None else begin
    three = manner in ("early", "sharp")
    while level >= 1:
        following = next_key(towers, at, level)
        if following is None:
            found.append(("end", level))
        elif following < key:
            found.append(("right", level, following))
            at = following
            continue
        elif manner in ("lean", "sharp") and following == left_at:
            found.append(("same", level, following))
        elif three and following == key:
            return found + [("found", level, following)]
        else:
            found.append(("stop", level, following))
        left_at = following
        level -= 1
    if not three and next_key(towers, at, 1) is not None:
        found.append(("look", next_key(towers, at, 1)))
    return found


def counted(found):
    """The cost of steps; each lane that is left behind but lane 1 is a move down."""
    words = [step[0] for step in found]
    downs = [step for step in found if step[0] in ("stop", "same", "end") and step[1] > 1]
    return words.count("right"), len(downs), sum(words.count(word) for word in ("right", "stop", "look", "found"))


def by_table(towers, key, manner):
    """The cost by the table of section 6."""
    left = [height for other, height in reversed(towers) if other < key]
    right = [height for other, height in towers if other >= key]
    weak = [height for at, height in enumerate(left) if height >= max(left[:at], default=0)]
    strict = [height for at, height in enumerate(right) if height > max(right[:at], default=0)]
    tall = max([height for _, height in towers], default=0)
    last = 1 if right else 0
    own = dict(towers).get(key)
    if manner in ("plain", "lean"):
        stops = (max(right, default=0) if manner == "plain" else len(strict)) + last
        return len(weak), max(tall - 1, 0), len(weak) + stops
    if own is None:
        stops = max(right, default=0) if manner == "early" else len(strict)
        return len(weak), max(tall - 1, 0), len(weak) + stops
    weak = [height for height in weak if height >= own]
    stops = max(right) - own + 1 if manner == "early" else len(strict)
    return len(weak), tall - own, len(weak) + stops


class StepTests(Case):
    def test_examples(self):
        self.same(
            steps(TOWERS, 12, "plain"),
            [("right", 3, 7), ("end", 3), ("stop", 2, 12), ("stop", 1, 12), ("look", 12)],
        )
        self.same(cost(TOWERS, 12, "plain"), (1, 2, 4))
        self.same(cost(TOWERS, 12, "lean"), (1, 2, 3))
        self.same(cost(TOWERS, 12, "early"), (1, 1, 2))

    def test_each_manner(self):
        self.same(
            steps(TOWERS, 12, "lean"),
            [("right", 3, 7), ("end", 3), ("stop", 2, 12), ("same", 1, 12), ("look", 12)],
        )
        self.same(steps(TOWERS, 12, "early"), [("right", 3, 7), ("end", 3), ("found", 2, 12)])
        self.same(
            steps(TOWERS, 5, "sharp"), [("stop", 3, 7), ("same", 2, 7), ("right", 1, 3), ("same", 1, 7)],
        )
        self.same(
            steps(TOWERS, 5, "early"), [("stop", 3, 7), ("stop", 2, 7), ("right", 1, 3), ("stop", 1, 7)],
        )
        self.same(steps(TOWERS, 21, "plain"), [
            ("right", 3, 7), ("end", 3), ("right", 2, 12), ("end", 2), ("right", 1, 20), ("end", 1),
        ])
        self.same(steps(TOWERS, 2, "lean"), [("stop", 3, 7), ("same", 2, 7), ("stop", 1, 3), ("look", 3)])

    def test_all_small_towers(self):
        for towers in small_towers(4, 3):
            for key in range(2 * len(towers) + 2):
                for manner in MANNERS:
                    found = steps(towers, key, manner)
                    self.same(found, walked(towers, key, manner))
                    self.same(cost(towers, key, manner), counted(found))
                    self.same(cost(towers, key, manner), by_table(towers, key, manner))

    def test_begins(self):
        for towers in small_towers(3, 3):
            for begin in (1, 2, 3, 4, 7):
                cut = tuple([(key, min(height, begin)) for key, height in towers])
                for key in range(2 * len(towers) + 2):
                    for manner in MANNERS:
                        found = steps(towers, key, manner, begin)
                        self.same(found, walked(towers, key, manner, begin))
                        self.same(cost(towers, key, manner, begin), counted(found))
                        if begin <= top(towers):
                            self.same(cost(towers, key, manner, begin), by_table(cut, key, manner))
                        else:
                            ends = [("end", level) for level in range(begin, top(towers), -1)]
                            self.same(found, ends + steps(towers, key, manner))

    def test_no_key(self):
        for manner in MANNERS:
            self.same(steps((), 5, manner), [])
            self.same(cost([], 5, manner), (0, 0, 0))
            self.same(steps((), 5, manner, 3), [("end", 3), ("end", 2), ("end", 1)])
            self.same(cost((), 5, manner, 1), (0, 0, 0))
            self.same(cost((), 5, manner, 64), (0, 63, 0))

    def test_large(self):
        random = Random(6)
        for tallest in (1, 4, 64):
            towers = tuple([(at * 3 - LONG, random.choice((1, 1, 2, tallest))) for at in range(1000)])
            for key in (-LONG - 1, -LONG, -LONG + 1500, 1 - LONG + 1500, LONG):
                for manner in MANNERS:
                    found = steps(towers, key, manner)
                    self.same(found, walked(towers, key, manner))
                    self.same(cost(towers, key, manner), counted(found))

    def test_great_heights(self):
        self.same(cost(((1, 70), (2, 3)), 2, "plain"), (1, 69, 5))
        self.same(cost(((1, 70), (2, 3)), 2, "early", 64), (1, 61, 2))

    def test_by_name(self):
        self.same(cost(manner="plain", key=12, towers=TOWERS), (1, 2, 4))
        self.same(cost(manner="plain", key=12, begin=2, towers=TOWERS), (1, 1, 4))
        self.same(steps(begin=None, manner="early", key=7, towers=TOWERS), [("found", 3, 7)])
        self.same(steps([[7, 3]], 7, "early"), [("found", 3, 7)])

    def test_wrong(self):
        for function in (steps, cost):
            self.refuses(function, (TOWERS, 12, "plain", 2), [
                (0, NoTowers, of_towers()), (1, NoKey, of_key()), (2, NoManner, of_manner()),
                (3, NoNumber, of_number(0, -1, 65, LONG)[1:]),
            ])

    def test_nothing_changes(self):
        for manner in MANNERS:
            self.keeps(steps, [[3, 1], [7, 3], [12, 2]], 12, manner)
            self.keeps(cost, [[3, 1], [7, 3], [12, 2]], 12, manner, 2)


class PlaceTests(Case):
    def test_is_in(self):
        self.same([is_in(TOWERS, key) for key in (2, 3, 5, 7, 20, 21)], [False, True, False, True, True, False])
        self.same(is_in((), 1), False)
        self.same(is_in(towers=[[LONG, 1]], key=LONG), True)

    def test_before(self):
        self.same(before(TOWERS, 12), [7, 7, 7])
        self.same(before(TOWERS, 7), [3, None, None])
        self.same(before(TOWERS, 3), [None, None, None])
        self.same(before(TOWERS, 21), [20, 12, 7])
        self.same(before(TOWERS, 13), [12, 12, 7])
        self.same(before((), 1), [])
        self.same(before(towers=[[1, 2]], key=1), [None, None])

    def test_all_small_towers(self):
        for towers in small_towers(4, 3):
            for key in range(2 * len(towers) + 2):
                self.same(is_in(towers, key), key in dict(towers))
                lasts = [
                    max([other for other, height in towers if height >= level and other < key], default=None)
                    for level in range(1, top(towers) + 1)
                ]
                self.same(before(towers, key), lasts)

    def test_wrong(self):
        for function in (is_in, before):
            self.refuses(function, (TOWERS, 12), [(0, NoTowers, of_towers()), (1, NoKey, of_key())])

    def test_nothing_changes(self):
        self.keeps(before, [[3, 1], [7, 3]], 7)
        self.keeps(is_in, [[3, 1], [7, 3]], 7)


class TotalTests(Case):
    def test_small(self):
        self.same(total((), "plain"), 0)
        self.same(total(manner="early", towers=[[5, 3]]), 1)
        for towers in small_towers(4, 3):
            for manner in MANNERS:
                self.same(total(towers, manner), sum(cost(towers, key, manner)[2] for key, _ in towers))

    def test_large(self):
        self.same(total([(at, 1) for at in range(1000)], "plain"), sum(at + 2 for at in range(1000)))
        self.same(total([(at, 64) for at in range(1000)], "sharp"), sum(at + 1 for at in range(1000)))

    def test_wrong(self):
        self.refuses(total, (TOWERS, "plain"), [(0, NoTowers, of_towers()), (1, NoManner, of_manner())])


class RecordTests(Case):
    def test_small(self):
        self.same(records(()), (0, 0))
        self.same(records(heights=[1, 1, 2, 1, 2, 3]), (5, 3))
        self.same(records((3, 2, 1)), (1, 1))
        self.same(records([LONG, LONG, LONG + 1]), (3, 2))
        for many in range(6):
            for heights in product((1, 2, 3), repeat=many):
                weak = [at for at in range(many) if all(heights[at] >= one for one in heights[:at])]
                strict = [at for at in range(many) if all(heights[at] > one for one in heights[:at])]
                self.same(records(heights), (len(weak), len(strict)))

    def test_wrong(self):
        for thing in no_rows():
            self.fails(NoHeights, {"index": -1}, records, thing)
        for thing in no_integers() + [0, -1, -LONG]:
            self.fails(NoHeights, {"index": 0}, records, [thing, 1])
            self.fails(NoHeights, {"index": 2}, records, (1, 2, thing, thing))


class WayTests(Case):
    def test_all_rows(self):
        for many, cap in ((1, 1), (1, 4), (2, 3), (3, 3), (4, 3), (5, 2), (4, 1)):
            for index in range(many):
                for manner in MANNERS:
                    found = {}
                    for heights in product(range(1, cap + 1), repeat=many):
                        compares = cost(tuple(enumerate(heights)), index, manner)[2]
                        found[compares] = found.get(compares, 0) + 1
                    self.assertEqual(ways(many, index, cap, manner), found)

    def test_greatest(self):
        for manner in MANNERS:
            for index in (0, 30, 59):
                found = ways(60, index, 12, manner)
                self.assertEqual(sum(found.values()), 12 ** 60)
                self.assertTrue(all(count > 0 for count in found.values()))
        self.same(ways(60, 0, 1, "plain"), {2: 1})
        self.same(ways(manner="lean", cap=1, index=59, many=60), {61: 1})

    def test_wrong(self):
        self.refuses(ways, (3, 1, 2, "plain"), [
            (0, NoNumber, of_number(0, -1, 61, LONG)), (1, NoNumber, of_number(-1, 3, LONG)),
            (2, NoNumber, of_number(0, -1, 13, LONG)), (3, NoManner, of_manner()),
        ])

    def test_each_dict_is_new(self):
        self.keeps(ways, 3, 1, 2, "early")


if __name__ == "__main__":
    unittest.main()
