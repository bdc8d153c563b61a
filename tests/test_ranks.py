import unittest
from itertools import product
from random import Random

from told import LONG, Case, of_key, of_number, of_towers
from tosslanes.deeds import inserted
from tosslanes.errors import NoKey, NoNumber, NoTowers
from tosslanes.ranks import between, changed_spans, nth, rank, ranked, spans
from tosslanes.searches import cost, steps
from tosslanes.towers import links, top

TOWERS = ((3, 1), (7, 3), (12, 2), (20, 1))


def small_towers(many, cap):
    for number in range(many + 1):
        for tall in product(range(1, cap + 1), repeat=number):
            yield tuple([(2 * at + 1, height) for at, height in enumerate(tall)])


def counted_spans(towers):
    """Each span as the number of keys that a link goes over, and one more."""
    keys = [key for key, _ in towers]
    return [
        (key, level, 1 + sum(1 for one in keys if (key is None or one > key) and (other is None or one < other)))
        for key, level, other in links(towers)
    ]


def walked(towers, index):
    """nth as section 9 tells it, with spans and links looked up."""
    span = {(key, level): number for key, level, number in spans(towers)}
    follows = {(key, level): other for key, level, other in links(towers)}
    at, level, places, rights, downs, looks = None, top(towers), 0, 0, 0, 0
    while places != index + 1:
        looks += 1
        if places + span[at, level] <= index + 1:
            places += span[at, level]
            at = follows[at, level]
            rights += 1
        else:
            level -= 1
            downs += 1
    return at, (rights, downs, looks)


class SpanTests(Case):
    def test_example(self):
        self.same(spans(TOWERS), [
            (None, 1, 1), (None, 2, 2), (None, 3, 2), (3, 1, 1), (7, 1, 1), (7, 2, 1), (7, 3, 3), (12, 1, 1),
            (12, 2, 2), (20, 1, 1),
        ])

    def test_small(self):
        self.same(spans(()), [])
        self.same(spans(towers=[[LONG, 2]]), [(None, 1, 1), (None, 2, 1), (LONG, 1, 1), (LONG, 2, 1)])
        for towers in small_towers(4, 3):
            self.same(spans(towers), counted_spans(towers))

    def test_large(self):
        towers = [(at, 64) for at in range(1000)]
        found = spans(towers)
        self.assertEqual(len(found), 64 * 1001)
        self.assertEqual([span for _, _, span in found], [1] * len(found))

    def test_wrong(self):
        self.refuses(spans, (TOWERS,), [(0, NoTowers, of_towers())])
        self.keeps(spans, [[3, 1], [7, 3]])


class RankTests(Case):
    def test_example(self):
        self.same(rank(TOWERS, 13), (3, 2))

    def test_small(self):
        self.same(rank((), 1), (0, 0))
        self.same(rank(key=21, towers=[[20, 1]]), (1, 1))
        for towers in small_towers(4, 3):
            span = {(key, level): number for key, level, number in spans(towers)}
            for key in range(2 * len(towers) + 2):
                moves = [step for step in steps(towers, key, "plain") if step[0] == "right"]
                less = [other for other, _ in towers if other < key]
                self.same(rank(towers, key), (len(less), len(moves)))
                # The rank is the sum of the spans of the moves.
                places = [None] + [step[2] for step in moves]
                self.assertEqual(len(less), sum(span[at, step[1]] for at, step in zip(places, moves)))

    def test_wrong(self):
        self.refuses(rank, (TOWERS, 3), [(0, NoTowers, of_towers()), (1, NoKey, of_key())])
        self.keeps(rank, [[3, 1], [7, 3]], 7)


class NthTests(Case):
    def test_example(self):
        self.same(nth(TOWERS, 2), (12, (2, 1, 3)))

    def test_small(self):
        self.same(nth(index=0, towers=[[5, 3]]), (5, (1, 0, 1)))
        for towers in small_towers(4, 3):
            for index, (key, _) in enumerate(towers):
                self.same(nth(towers, index), walked(towers, index))
                rights, downs, _ = cost(towers, key, "early")
                self.assertEqual(nth(towers, index)[1][:2], (rights + 1, downs))

    def test_large(self):
        random = Random(9)
        towers = tuple([(at, random.choice((1, 1, 2, 3, 9))) for at in range(1000)])
        for index in (0, 500, 999):
            self.same(nth(towers, index), walked(towers, index))

    def test_wrong(self):
        self.refuses(nth, (TOWERS, 2), [(0, NoTowers, of_towers()), (1, NoNumber, of_number(-1, 4, LONG))])
        self.fails(NoNumber, {"value": 0}, nth, (), 0)
        self.keeps(nth, [[3, 1], [7, 3]], 1)


class ChangedTests(Case):
    def test_small(self):
        self.same(changed_spans((), ()), [])
        self.same(changed_spans(TOWERS, list(TOWERS)), [])
        news = [(None, 1, None, 1), (None, 2, None, 1), (5, 1, None, 1), (5, 2, None, 1)]
        self.same(changed_spans((), ((5, 2),)), news)
        self.same(changed_spans(other=(), one=((5, 1),)), [(None, 1, 1, None), (5, 1, 1, None)])
        # A link that leads elsewhere has not changed if its span is the same.
        self.same(changed_spans(((5, 1),), ((6, 1),)), [(6, 1, None, 1), (5, 1, 1, None)])
        self.same(changed_spans(((3, 1), (9, 2)), ((3, 1), (5, 1), (9, 2))), [(None, 2, 2, 3), (5, 1, None, 1)])

    def test_all_pairs(self):
        rows = list(small_towers(3, 2)) + [((3, 3),), ((1, 1), (3, 1), (4, 2))]
        for one, other in product(rows, repeat=2):
            old = {(key, level): span for key, level, span in counted_spans(one)}
            new = {(key, level): span for key, level, span in counted_spans(other)}
            wanted = [(*link, old.get(link), span) for link, span in new.items() if old.get(link) != span]
            wanted += [(*link, span, None) for link, span in old.items() if link not in new]
            self.same(changed_spans(one, other), wanted)

    def test_insertions(self):
        for towers in small_towers(3, 3):
            for key in range(0, 2 * len(towers) + 1, 2):
                for height in (1, 2, 4):
                    for at, level, old, new in changed_spans(towers, inserted(towers, key, height)):
                        if old is None:
                            self.assertTrue(at == key or (at is None and level > top(towers)))
                        elif level > height:
                            self.assertEqual(new, old + 1)
                        else:
                            self.assertLess(new, old)

    def test_wrong(self):
        self.refuses(changed_spans, (TOWERS, TOWERS), [(0, NoTowers, of_towers()), (1, NoTowers, of_towers())])
        self.keeps(changed_spans, [[3, 1]], [[3, 2]])


class BetweenTests(Case):
    def naive(self, towers, low, high):
        """The search for low without its last look, then the walk, key by key."""
        found = steps(towers, low, "plain")
        words = [step[0] for step in found]
        rights, downs, compares = cost(towers, low, "plain")
        compares -= words.count("look")
        keys = []
        for key, _ in towers:
            if key >= low:
                compares += 1
                if key > high:
                    break
                rights += 1
                keys.append(key)
        return keys, (rights, downs, compares)

    def test_small(self):
        self.same(between((), 1, 2), ([], (0, 0, 0)))
        self.same(between(TOWERS, 7, 12), ([7, 12], (3, 2, 7)))
        self.same(between(high=100, low=21, towers=TOWERS), ([], (3, 2, 3)))
        self.same(between(TOWERS, 12, 3), ([], (1, 2, 4)))
        self.same(between(TOWERS, 21, 3), ([], (3, 2, 3)))
        for towers in small_towers(3, 3):
            for low, high in product(range(2 * len(towers) + 2), repeat=2):
                self.same(between(towers, low, high), self.naive(towers, low, high))

    def test_wrong(self):
        self.refuses(between, (TOWERS, 3, 9), [(0, NoTowers, of_towers()), (1, NoKey, of_key()), (2, NoKey, of_key())])
        self.keeps(between, [[3, 1], [7, 3]], 3, 9)


class RankedTests(Case):
    def test_small(self):
        self.same(ranked((), 0, 0), [])
        self.same(ranked(TOWERS, 1, 3), [7, 12])
        self.same(ranked(towers=TOWERS, last=4, first=0), [3, 7, 12, 20])
        self.same([ranked(TOWERS, 4, 4), ranked(TOWERS, 0, 0), ranked(list(TOWERS), 3, 4)], [[], [], [20]])

    def test_wrong(self):
        self.refuses(ranked, (TOWERS, 1, 3), [
            (0, NoTowers, of_towers()), (1, NoNumber, of_number(-1, 5, LONG)), (2, NoNumber, of_number(0, -1, 5, LONG)),
        ])
        self.fails(NoNumber, {"value": 3}, ranked, TOWERS, 4, 3)
        self.keeps(ranked, [[3, 1], [7, 3]], 0, 2)


if __name__ == "__main__":
    unittest.main()
