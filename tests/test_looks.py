import unittest
from fractions import Fraction
from itertools import combinations, product
from random import Random

from told import (
    LONG, Case, no_integers, no_rows, of_chance, of_key, of_manner, of_new_keys, of_number,
)
from tosslanes.errors import Never, NoChance, NoKey, NoKeys, NoManner, NoNumber, NoSeeks, NoSeen
from tosslanes.looks import answers, behind, left, named, next_seek, telling, untold
from tosslanes.plans import alone
from tosslanes.searches import MANNERS, cost

CHANCES = [(1, 2), (2, 6), (4, 5)]


def all_towers(keys, cap):
    """All towers of the keys, sorted."""
    return sorted(
        tuple(sorted(zip(keys, heights))) for heights in product(range(1, cap + 1), repeat=len(keys))
    )


def compares(towers, key, manner):
    return cost(towers, key, manner)[2]


def part_of(towers, chance, cap):
    p = Fraction(*chance)
    part = Fraction(1)
    for _, height in towers:
        part *= p ** (height - 1) * (1 if height == cap else 1 - p)
    return part


def parts_left(keys, seen, manner, chance, cap):
    fits = [
        towers for towers in all_towers(keys, cap)
        if all(compares(towers, key, manner) == many for key, many in seen)
    ]
    total = sum(part_of(towers, chance, cap) for towers in fits)
    return {towers: part_of(towers, chance, cap) / total for towers in fits}


def best_guess(parts, key, manner):
    greatest = {}
    for towers, part in parts.items():
        many = compares(towers, key, manner)
        greatest[many] = max(greatest.get(many, 0), part)
    return sum(greatest.values())


def pair(part):
    return part.numerator, part.denominator


def samples():
    """(keys, seen, manner, cap): what may be seen, each time of some towers."""
    random = Random(16)
    for keys, cap in (((1,), 1), ((1,), 5), ((2, 1), 3), ((5, 1, 3), 2), ((1, 2, 3), 3), ((4, 1, 3, 9), 2)):
        for manner in MANNERS:
            for many in (0, 1, 2, 3):
                towers = random.choice(all_towers(keys, cap))
                sought = [random.randrange(11) for _ in range(many)]
                yield keys, [(key, compares(towers, key, manner)) for key in sought], manner, cap


class ExampleTests(Case):
    def test_examples(self):
        wanted = {((1, 1), (2, 1)): (1, 3), ((1, 2), (2, 1)): (1, 3), ((1, 2), (2, 2)): (1, 3)}
        self.same(behind((1, 2), [(1, 1)], "early", (1, 2), 2), wanted)
        self.same(telling((1, 2), (1, 2, 5), "early", 2), [(0,), (1,), (2,)])

    def test_by_name(self):
        self.same(left(cap=1, manner="plain", seen=[], keys=[4]), [((4, 1),)])
        self.same(behind(cap=1, chance=[1, 2], manner="plain", seen=[], keys=[4]), {((4, 1),): (1, 1)})
        self.same(answers(cap=1, chance=[1, 2], manner="plain", key=4, seen=[], keys=[4]), {2: (1, 1)})
        self.same(named(cap=1, chance=[1, 2], manner="plain", key=4, seen=[], keys=[4]), (1, 1))
        self.same(next_seek(cap=1, chance=[1, 2], manner="plain", seeks=[4], seen=[], keys=[4]), (4, (1, 1)))
        self.same(untold(cap=2, manner="plain", seeks=[5], keys=[4]), [[((4, 1),), ((4, 2),)]])
        self.same(telling(cap=2, manner="plain", seeks=[5, 4], keys=[4]), [(1,)])


class LeftTests(Case):
    def test_all_towers(self):
        for keys, seen, manner, cap in samples():
            fits = parts_left(keys, seen, manner, (1, 2), cap)
            self.same(left(keys, seen, manner, cap), sorted(fits))
            for chance in CHANCES:
                parts = parts_left(keys, seen, manner, chance, cap)
                found = behind(keys, seen, manner, chance, cap)
                self.same(found, {towers: pair(parts[towers]) for towers in sorted(parts)})

    def test_nothing_seen(self):
        for chance in CHANCES:
            for keys in ((1,), (3, 1), (2, 5, 1), (4, 1, 2, 3)):
                for manner in MANNERS:
                    self.same(behind(keys, (), manner, chance, 3), alone(keys, chance, ("cap", 3)))
                    self.same(left(keys, [], manner, 3), all_towers(keys, 3))

    def test_what_cannot_be(self):
        for seen in ([(1, 0)], [(1, -1)], [(1, LONG)], [(1, 2), (1, 3)], [(0, 2), (-LONG, 3)], [(1, 2)] * 9 + [(1, 5)]):
            for manner in MANNERS:
                if manner in ("plain", "lean"):
                    self.same(left((1, 2), seen, manner, 2), [])
                    self.fails(Never, {}, behind, (1, 2), seen, manner, (1, 2), 2)
                    self.fails(Never, {}, answers, (1, 2), seen, 1, manner, (1, 2), 2)
                    self.fails(Never, {}, named, (1, 2), seen, 1, manner, (1, 2), 2)
                    self.fails(Never, {}, next_seek, (1, 2), seen, [1], manner, (1, 2), 2)

    def test_much_seen(self):
        towers = ((1, 4), (2, 1), (3, 2), (4, 2), (5, 1))
        for manner in MANNERS:
            seen = [(key, compares(towers, key, manner)) for key in range(-400, 600)]
            found = left((1, 2, 3, 4, 5), seen, manner, 4)
            self.assertIn(towers, found)
            self.same(found, left((1, 2, 3, 4, 5), seen[398:410], manner, 4))


class AnswerTests(Case):
    def test_all_towers(self):
        for keys, seen, manner, cap in samples():
            for chance in CHANCES:
                parts = parts_left(keys, seen, manner, chance, cap)
                for key in range(-1, 7):
                    wanted = {}
                    for towers, part in parts.items():
                        many = compares(towers, key, manner)
                        wanted[many] = wanted.get(many, 0) + part
                    found = answers(keys, seen, key, manner, chance, cap)
                    self.same(found, {many: pair(wanted[many]) for many in sorted(wanted)})
                    guess = best_guess(parts, key, manner)
                    self.same(named(keys, seen, key, manner, chance, cap), pair(guess))
                    self.assertGreaterEqual(guess, max(parts.values()))
                    tells = len(wanted) == len(parts)
                    self.assertEqual(guess == 1, tells)

    def test_next_seek(self):
        random = Random(17)
        for keys, seen, manner, cap in samples():
            for chance in CHANCES:
                parts = parts_left(keys, seen, manner, chance, cap)
                seeks = random.sample(range(-1, 11), random.randrange(1, 10))
                guesses = [best_guess(parts, seek, manner) for seek in seeks]
                best = guesses.index(max(guesses))
                found = next_seek(keys, seen, seeks, manner, chance, cap)
                self.same(found, (seeks[best], pair(guesses[best])))


class TellingTests(Case):
    def groups(self, keys, seeks, manner, cap):
        rows = {}
        for towers in all_towers(keys, cap):
            rows.setdefault(tuple(compares(towers, seek, manner) for seek in seeks), []).append(towers)
        return sorted(group for group in rows.values() if len(group) > 1)

    def test_all_towers(self):
        random = Random(18)
        for keys, cap in (((1,), 1), ((1,), 5), ((2, 1), 3), ((5, 1, 3), 2), ((1, 2, 3), 3), ((4, 1, 3, 9), 2)):
            for manner in MANNERS:
                for many in (1, 2, 4, 5):
                    seeks = random.sample(range(-1, 11), many)
                    groups = self.groups(keys, seeks, manner, cap)
                    self.same(untold(keys, seeks, manner, cap), groups)
                    enough = [
                        chosen for size in range(many + 1) for chosen in combinations(range(many), size)
                        if self.groups(keys, [seeks[at] for at in chosen], manner, cap) == groups
                    ]
                    fewest = [chosen for chosen in enough if len(chosen) == len(enough[0])]
                    self.same(telling(keys, seeks, manner, cap), fewest)

    def test_plain_does_not_tell_all(self):
        for manner in ("plain", "lean"):
            groups = untold((1, 2, 3), tuple(range(9)), manner, 3)
            together = [group for group in groups if ((1, 2), (2, 1), (3, 3)) in group]
            self.assertIn(((1, 1), (2, 1), (3, 3)), together[0])

    def test_nothing_to_tell(self):
        # But one tower, and seeks that tell nothing: no seek is wanted.
        self.same(telling((1, 2), (1, 2), "plain", 1), [()])
        self.same(untold((1, 2), (1, 2), "plain", 1), [])
        self.same(telling((4,), (5, 6), "plain", 2), [()])

    def test_greatest(self):
        seeks = (0, 1, 2, 3, 4, 5, 6, 7, 8)
        for manner in MANNERS:
            for keys, cap in (((1, 2, 3, 4, 5), 4), ((1, 2, 3, 4, 5, 6), 3), ((1, 2, 3, 4), 5)):
                groups = untold(keys, seeks, manner, cap)
                self.assertLessEqual(sum(map(len, groups)), cap ** len(keys))
                self.assertTrue(all(len(chosen) <= 9 for chosen in telling(keys, seeks, manner, cap)))
                seek, part = next_seek(keys, (), seeks, manner, (7, 20), cap)
                self.same(named(keys, (), seek, manner, (7, 20), cap), part)


def of_keys():
    rows = [((), {"index": -1}), ([], {"index": -1}), ([1, 2, 3, 4, 5, 6, 7], {"index": -1})]
    return of_new_keys() + rows + [([1, 2, 3, 4, 5, 6, None], {"index": 6}), ([1, 2, 3, 4, 5, 6, 6], {"index": 6})]


def of_seen():
    wrong = no_integers() + [(1, 2, 3), (True, 2), (1, False), ("1", 2), (1, "2"), (None, 1), {1: 1, 2: 2}, [[], 1]]
    rows = [([(1, 2), [2, 2], thing, None], {"index": 2}) for thing in wrong]
    return rows + [((thing,), {"index": 0}) for thing in wrong] + [(thing, {"index": -1}) for thing in no_rows()]


def of_seeks():
    rows = [((), {"index": -1}), ([], {"index": -1}), (list(range(10)), {"index": -1})]
    return of_new_keys() + rows + [(list(range(9)) + [8], {"index": 9}), (list(range(9)) + [None], {"index": 9})]


class WrongTests(Case):
    def setUp(self):
        manner, chance = (NoManner, of_manner()), (NoChance, of_chance())
        cap = (NoNumber, of_number(0, -1, 6))
        keys, seen, seeks, key = (NoKeys, of_keys()), (NoSeen, of_seen()), (NoSeeks, of_seeks()), (NoKey, of_key())
        some_keys, some_seen = (1, 2), [(1, 2)]
        self.calls = [
            (left, (some_keys, some_seen, "plain", 2), (keys, seen, manner, cap)),
            (behind, (some_keys, some_seen, "plain", (1, 2), 2), (keys, seen, manner, chance, cap)),
            (answers, (some_keys, some_seen, 1, "plain", (1, 2), 2), (keys, seen, key, manner, chance, cap)),
            (named, (some_keys, some_seen, 1, "plain", (1, 2), 2), (keys, seen, key, manner, chance, cap)),
            (next_seek, (some_keys, some_seen, [1], "plain", (1, 2), 2), (keys, seen, seeks, manner, chance, cap)),
            (untold, (some_keys, [1, 2], "plain", 2), (keys, seeks, manner, cap)),
            (telling, (some_keys, [1, 2], "plain", 2), (keys, seeks, manner, cap)),
        ]

    def test_wrong(self):
        for function, right, checks in self.calls:
            self.refuses(function, right, [(place,) + check for place, check in enumerate(checks)])

    def test_too_many_towers_come_behind_the_cap(self):
        for keys, cap in (((1, 2, 3, 4, 5), 5), ([1, 2, 3, 4, 5, 6], 4), ((6, 5, 4, 3, 2, 1), 5)):
            for function, right, checks in self.calls:
                values = [keys] + list(right[1:-1]) + [cap]
                if function in (behind, answers, named, next_seek, left):
                    # Also ahead of Never.
                    values[1] = [(1, 0)]
                self.fails(NoKeys, {"index": -1}, function, *values)
                for place in range(1, len(values)):
                    error, things = checks[place]
                    self.fails(error, things[0][1], function, *values[:place], things[0][0], *values[place + 1:])
        for keys, cap in (((1, 2, 3, 4, 5), 4), ((1, 2, 3, 4), 5), ((1, 2, 3, 4, 5, 6), 3)):
            self.assertEqual(len(left(keys, (), "sharp", cap)), cap ** len(keys))

    def test_kept(self):
        for function, right, _ in self.calls:
            lists = [list(value) if isinstance(value, tuple) else value for value in right]
            if function in (behind, answers, named, next_seek, left):
                lists[1] = [[1, 2]]
            self.keeps(function, *lists)


if __name__ == "__main__":
    unittest.main()
