import unittest
from itertools import product
from random import Random

from told import LONG, Case, of_key, of_rows, of_towers
from tosslanes.errors import NoKey, NoKeys, NoTowers
from tosslanes.fingers import finger_cost, finger_steps, walk
from tosslanes.towers import next_key, top

TOWERS = ((3, 1), (7, 3), (12, 2), (20, 1))


def small_towers(many, cap):
    for number in range(many + 1):
        for tall in product(range(1, cap + 1), repeat=number):
            yield tuple([(2 * at + 1, height) for at, height in enumerate(tall)])


def walked(towers, finger, key):
    """The steps, as section 11 tells them in words."""
    tall = top(towers)
    if tall == 0:
        return []

    def place(level):
        return max([other for other, height in towers if height >= level and other < finger], default=None)

    found = []
    level = 1
    at = place(1)
    while True:
        if key > finger:
            if level == tall:
                break
            following = next_key(towers, at, level)
            if following is None:
                found.append(("edge", level))
                break
            if following >= key:
                found.append(("turn", level, following))
                break
            found.append(("up", level, following))
        else:
            if at is None:
                found.append(("edge", level))
                break
            if at < key:
                found.append(("turn", level, at))
                break
            found.append(("up", level, at))
            if level == tall:
                at = None
                break
        level += 1
        at = place(level)
    while level >= 1:
        following = next_key(towers, at, level)
        if following is not None and following < key:
            found.append(("right", level, following))
            at = following
            continue
        found.append(("end", level) if following is None else ("stop", level, following))
        level -= 1
    if next_key(towers, at, 1) is not None:
        found.append(("look", next_key(towers, at, 1)))
    return found


def counted(found):
    words = [step[0] for step in found]
    downs = [step for step in found if step[0] in ("stop", "end") and step[1] > 1]
    compares = sum(words.count(word) for word in ("up", "turn", "right", "stop", "look"))
    return words.count("up"), words.count("right"), len(downs), compares


def by_facts(towers, finger, key):
    """Ups, rights and downs by the facts at the end of section 11."""
    tall = top(towers)
    left = [height for other, height in reversed(towers) if other < key]
    weak = [height for at, height in enumerate(left) if height >= max(left[:at], default=0)]
    if key > finger:
        passed = [height for other, height in towers if finger <= other < key]
        ups = min(max(passed, default=0), max(tall - 1, 0))
        rights = len([height for height in weak if height < ups + 1])
        if ups + 1 == tall:
            rights += passed.count(tall)
        return ups, rights, ups
    ups = max([height for other, height in towers if key <= other < finger], default=0)
    if ups == tall:
        return ups, len(weak), max(tall - 1, 0)
    return ups, len([height for height in weak if height <= ups]), ups


class StepTests(Case):
    def test_examples(self):
        self.same(finger_steps(TOWERS, 8, 20), [
            ("up", 1, 12), ("up", 2, 12), ("end", 3), ("right", 2, 12), ("end", 2), ("stop", 1, 20), ("look", 20),
        ])
        self.same(finger_steps(TOWERS, 20, 12), [
            ("up", 1, 12), ("up", 2, 12), ("turn", 3, 7), ("end", 3), ("stop", 2, 12), ("stop", 1, 12), ("look", 12),
        ])
        self.same(finger_cost(TOWERS, 8, 20), (2, 1, 2, 5))
        self.same(finger_cost(TOWERS, 20, 12), (2, 0, 2, 6))

    def test_edges(self):
        self.same(finger_steps((), 1, 2), [])
        self.same(finger_steps((), 2, 1), [])
        self.same(finger_cost([], 1, 1), (0, 0, 0, 0))
        # At the place itself, of a key and of none.
        self.same(finger_steps(TOWERS, 12, 12), [("turn", 1, 7), ("stop", 1, 12), ("look", 12)])
        self.same(finger_steps(TOWERS, 13, 13), [("turn", 1, 12), ("stop", 1, 20), ("look", 20)])
        self.same(finger_steps(TOWERS, 3, 3), [("edge", 1), ("stop", 1, 3), ("look", 3)])
        self.same(finger_steps(TOWERS, 30, 30), [("turn", 1, 20), ("end", 1)])
        # Up from the top lane, and at the head.
        self.same(finger_steps(TOWERS, 8, 7), [
            ("up", 1, 7), ("up", 2, 7), ("up", 3, 7), ("stop", 3, 7), ("stop", 2, 7), ("right", 1, 3), ("stop", 1, 7),
            ("look", 7),
        ])
        self.same(finger_steps(((5, 1),), 3, 9), [("right", 1, 5), ("end", 1)])
        self.same(finger_steps(((5, 1),), 9, 3), [("up", 1, 5), ("stop", 1, 5), ("look", 5)])
        self.same(finger_steps(((5, 1), (6, 2)), 6, 9), [("up", 1, 6), ("right", 2, 6), ("end", 2), ("end", 1)])
        self.same(finger_steps(((5, 2), (6, 1)), 6, 9), [("up", 1, 6), ("end", 2), ("right", 1, 6), ("end", 1)])
        self.same(finger_steps(((5, 2), (6, 1)), 7, 9), [("edge", 1), ("end", 1)])
        self.same(finger_cost(key=12, finger=20, towers=[list(pair) for pair in TOWERS]), (2, 0, 2, 6))

    def test_all_small_towers(self):
        for towers in small_towers(4, 3):
            for finger, key in product(range(2 * len(towers) + 2), repeat=2):
                found = finger_steps(towers, finger, key)
                self.same(found, walked(towers, finger, key))
                self.same(finger_cost(towers, finger, key), counted(found))
                self.same(finger_cost(towers, finger, key)[:3], by_facts(towers, finger, key))

    def test_large(self):
        random = Random(3)
        for tallest in (1, 3, 64):
            towers = tuple([(at * 2 - LONG, random.choice((1, 1, 1, 2, tallest))) for at in range(1000)])
            for _ in range(20):
                finger, key = [random.randrange(-5, 2005) - LONG for _ in range(2)]
                found = finger_steps(towers, finger, key)
                self.same(found, walked(towers, finger, key))
                self.same(finger_cost(towers, finger, key), counted(found))

    def test_wrong(self):
        for function in (finger_steps, finger_cost):
            keys = [(1, NoKey, of_key()), (2, NoKey, of_key())]
            self.refuses(function, (TOWERS, 3, 9), [(0, NoTowers, of_towers()), *keys])
            self.keeps(function, [[3, 1], [7, 3]], 3, 9)


class WalkTests(Case):
    def test_small(self):
        self.same(walk(TOWERS, []), [])
        self.same(walk((), [1, 5]), [(0, 0, 0, 0), (0, 0, 0, 0)])
        self.same(walk(TOWERS, (20, 12)), [finger_cost(TOWERS, 20, 20), (2, 0, 2, 6)])
        self.same(walk(keys=[8, 20], towers=TOWERS), [finger_cost(TOWERS, 8, 8), (2, 1, 2, 5)])

    def test_rows(self):
        random = Random(5)
        for towers in small_towers(3, 3):
            keys = [random.randrange(9) for _ in range(5)]
            wanted = [finger_cost(towers, keys[max(at - 1, 0)], key) for at, key in enumerate(keys)]
            self.same(walk(towers, keys), wanted)

    def test_large(self):
        random = Random(7)
        towers = [(at, random.choice((1, 2, 64))) for at in range(1000)]
        keys = [random.randrange(1000) for _ in range(1000)]
        found = walk(towers, keys)
        self.assertEqual(len(found), 1000)
        for at in (0, 500, 999):
            self.same(found[at], counted(finger_steps(towers, keys[max(at - 1, 0)], keys[at])))

    def test_wrong(self):
        self.refuses(walk, (TOWERS, [3, 9]), [(0, NoTowers, of_towers()), (1, NoKeys, of_rows())])
        self.keeps(walk, [[3, 1], [7, 3]], [3, 9])


if __name__ == "__main__":
    unittest.main()
