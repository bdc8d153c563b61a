import unittest
from fractions import Fraction
from itertools import permutations, product
from math import factorial
from random import Random

from told import (
    LONG, Case, nested, no_integers, no_rows, of_chance, of_history, of_new_keys, of_number, of_rule, of_towers,
)
from tosslanes.coins import coins_for, most
from tosslanes.deeds import is_by, run, stays
from tosslanes.errors import NoChance, NoHistory, NoKeys, NoNumber, NoRule, NoTowers, Short
from tosslanes.orders import (
    chance_in, deeds_for, height_in, history_for, is_order, likeliest, mixed, order_at, orders, reach, strings,
    top_after, tosses_mean, tosses_most,
)
from tosslanes.plans import alone
from tosslanes.towers import top

TOWERS = ((1, 1), (2, 2), (3, 1))
RULES = [("cap", 1), ("cap", 2), ("cap", 3), ("step",), ("step", 1), ("step", 2), ("step", 3)]
CHANCES = [(1, 2), (2, 6), (4, 5)]
SAMPLES = [
    [], [("seek", 1)], [("remove", 1)], [("insert", 1)], [("insert", 1), ("insert", 1)],
    [("insert", 1), ("insert", 2), ("remove", 1)], [("insert", 2), ("insert", 1), ("remove", 1), ("remove", 1)],
    [("insert", 1), ("remove", 1), ("insert", 1), ("seek", 1), ("insert", 2)],
    [("insert", 3), ("insert", 1), ("insert", 2), ("remove", 3)],
    [("insert", 1), ("insert", 2), ("remove", 1), ("insert", 1), ("remove", 2), ("insert", 3)],
]


def all_towers(many, cap):
    for heights in product(range(1, cap + 1), repeat=many):
        yield tuple([(10 * at, height) for at, height in enumerate(heights)])


def is_by_step(towers, keys):
    """Each height is at most one more than the greatest one ahead of it."""
    heights = [dict(towers)[key] for key in keys]
    return all(height <= 1 + max(heights[:at], default=0) for at, height in enumerate(heights))


def coins(chance, limit):
    """(height, chance, coins tossed), coin by coin; without a limit up to the height 60."""
    p = Fraction(*chance)
    going = Fraction(1)
    for height in range(1, 60 if limit is None else limit):
        yield height, going * (1 - p), height
        going *= p
    if limit is not None:
        yield limit, going, limit - 1


def alone_in(keys, chance, rule):
    """The chances of all rows of heights of keys inserted in this order, coin by coin."""
    rows = {(): Fraction(1)}
    for _ in keys:
        rows = {
            row + (height,): part * one
            for row, part in rows.items() for height, one, _ in coins(chance, most(rule, max(row, default=0)))
        }
    return {tuple(sorted(zip(keys, row))): part for row, part in rows.items()}


def played(history, chance, rule):
    """(towers, chance, coins tossed) of all coins of a history, by a finite rule."""
    rows = [((), Fraction(1), 0)]
    for word, key in history:
        behind = []
        for towers, part, tossed in rows:
            is_there = key in [other for other, _ in towers]
            if word == "insert" and not is_there:
                for height, one, many in coins(chance, most(rule, top(towers))):
                    behind.append((tuple(sorted(towers + ((key, height),))), part * one, tossed + many))
            elif word == "remove":
                behind.append((tuple(pair for pair in towers if pair[0] != key), part, tossed))
            else:
                behind.append((towers, part, tossed))
        rows = behind
    return rows


def pair(part):
    return Fraction(part).numerator, Fraction(part).denominator


class OrderTests(Case):
    def test_example(self):
        self.same((orders(TOWERS), order_at(TOWERS, 3)), (4, (3, 2, 1)))
        self.same(orders(towers=[[5, 2]]), 0)
        self.same(order_at(index=0, towers=[[5, 1]]), (5,))
        self.same(is_order(keys=[5], towers=[[5, 1]]), True)

    def test_all_orders(self):
        for many in range(6):
            for towers in all_towers(many, 4 if many < 5 else 3):
                keys = [key for key, _ in towers]
                fits = [row for row in permutations(keys) if is_by_step(towers, row)]
                self.same(orders(towers), len(fits))
                self.same([order_at(towers, index) for index in range(len(fits))], fits)
                self.fails(NoNumber, {"value": len(fits)}, order_at, towers, len(fits))
                self.same(sum(is_order(towers, row) for row in permutations(keys)), len(fits))
                self.assertTrue(all(is_order(towers, list(row)) is True for row in fits))

    def test_no_towers(self):
        self.same([orders(()), order_at((), 0), is_order((), ()), is_order((), [])], [1, (), True, True])
        self.fails(NoNumber, {"value": 1}, order_at, (), 1)

    def test_order_that_cannot_be(self):
        for towers in (((5, 2),), ((5, 1), (6, 3)), ((5, LONG),), ((5, 1), (6, 1), (7, 3))):
            self.same(orders(towers), 0)
            self.fails(NoNumber, {"value": 0}, order_at, towers, 0)
            for row in permutations([key for key, _ in towers]):
                self.same(is_order(towers, row), False)
            self.same(mixed(towers, (1, 2)) if towers[-1][1] < 64 else (0, 1), (0, 1))

    def test_is_order_of_anything(self):
        for thing in no_rows() + no_integers() + [
            (1, 2), (1, 2, 3, 3), (1, 2, 4), (1, 3, 3), (True, 2, 3), (1, "2", 3), (1, 2, None), [[1, 2, 3]],
            nested(3), nested(3000), ((1, 2, 3),), (2, 1, 3), {1: 1, 2: 2, 3: 3}, (1, 2, 3, None),
        ]:
            self.same(is_order(TOWERS, thing), False)
        self.same(is_order(TOWERS, [3, 1, 2]), True)

    def test_two_hundred_keys(self):
        random = Random(17)
        towers = tuple([(key, 1 + (key if key < 64 else random.randrange(64))) for key in range(200)])
        many = orders(towers)
        last = order_at(towers, many - 1)
        self.assertTrue(is_order(towers, last))
        self.fails(NoNumber, {"value": many}, order_at, towers, many)
        rows = [order_at(towers, index) for index in (0, 1, many // 3, many // 2, many - 2)] + [last]
        self.assertEqual(rows, sorted(rows))
        self.assertTrue(all(is_order(towers, row) for row in rows))
        self.same(chance_in(towers, rows[0], (1, 2), ("step",)), chance_in(towers, last, (1, 2), ("step",)))
        wanted = Fraction(many, factorial(200)) * Fraction(*chance_in(towers, last, (1, 2), ("step",)))
        self.same(mixed(towers, (1, 2)), pair(wanted))


class ChanceInTests(Case):
    def test_example(self):
        self.same((chance_in(TOWERS, (3, 1, 2), (1, 3), ("step",)), mixed(TOWERS, (1, 3))), ((2, 9), (4, 27)))

    def test_all_coins(self):
        for many in range(4):
            for chance in CHANCES:
                rows = list(all_towers(many, 4))
                for keys in permutations([10 * at for at in range(many)]):
                    for rule in RULES + [("cap", 4), ("step", 64)]:
                        parts = alone_in(keys, chance, rule)
                        for towers in rows:
                            found = chance_in(towers, keys, chance, rule)
                            self.same(found, pair(parts.get(towers, 0)))
                    # Where none of them is at the greatest height each ends with a coin of its own.
                    for towers in rows:
                        p = Fraction(*chance)
                        part = p ** (sum(height for _, height in towers) - many) * (1 - p) ** many
                        for rule in (("free",), ("cap", 64), ("cap", 5)):
                            self.same(chance_in(towers, keys, chance, rule), pair(part))

    def test_all_orders_have_one_chance(self):
        for many in range(5):
            for towers in all_towers(many, 3):
                keys = [key for key, _ in towers]
                for chance in CHANCES:
                    p = Fraction(*chance)
                    total = Fraction(0)
                    for row in permutations(keys):
                        one = Fraction(*chance_in(towers, row, chance, ("step",)))
                        total += one
                        if is_by_step(towers, row):
                            heights = [height for _, height in towers]
                            self.assertEqual(one, p ** (sum(heights) - many) * (1 - p) ** (many - top(towers)))
                        else:
                            self.assertEqual(one, 0)
                    self.same(mixed(towers, chance), pair(total / factorial(many)))

    def test_other_keys(self):
        for keys in ((), (1, 2), (1, 2, 4), (1, 2, 3, 4), [7]):
            for rule in (("free",), ("cap", 2), ("step",)):
                self.same(chance_in(TOWERS, keys, (1, 2), rule), (0, 1))
        self.same(chance_in(rule=["free"], chance=[1, 2], keys=[], towers=[]), (1, 1))
        self.same(mixed(chance=[1, 2], towers=[]), (1, 1))

    def test_alone(self):
        # The chances of section 15.
        for keys in permutations((1, 2, 3)):
            for rule in RULES:
                for towers, part in alone(keys, (2, 5), rule).items():
                    self.same(chance_in(towers, keys, (2, 5), rule), part)

    def test_great(self):
        towers = tuple([(key, 64) for key in range(200)])
        found = chance_in(towers, list(range(200)), (999, 1000), ("free",))
        self.assertEqual(found, (999 ** 12600, 1000 ** 12800))
        self.same(chance_in(towers, list(range(200)), (1, 2), ("cap", 64))[1].bit_length(), 12601)
        self.same(chance_in(towers, list(range(200)), (1, 2), ("step",)), (0, 1))


class TopTests(Case):
    def test_example(self):
        self.same(height_in(3, (1, 2)), {1: (1, 2), 2: (3, 8), 3: (1, 8)})

    def test_all_coins(self):
        for chance in CHANCES + [(1, 20), (19, 20)]:
            for many in range(1, 7):
                tops = {}
                lasts = {}
                rows = {(): Fraction(1)}
                for _ in range(many):
                    rows = {
                        row + (height,): part * one for row, part in rows.items()
                        for height, one, _ in coins(chance, max(row, default=0) + 1)
                    }
                for row, part in rows.items():
                    tops[max(row)] = tops.get(max(row), 0) + part
                    lasts[row[-1]] = lasts.get(row[-1], 0) + part
                self.same(top_after(many, chance), {one: pair(tops[one]) for one in sorted(tops)})
                self.same(height_in(many, chance), {one: pair(lasts[one]) for one in sorted(lasts)})

    def test_greatest(self):
        for chance in ((1, 2), (7, 20), (19, 20)):
            p = Fraction(*chance)
            tops = top_after(60, chance)
            lasts = height_in(60, chance)
            for found in (tops, lasts):
                self.assertEqual(list(found), list(range(1, 61)))
                self.assertEqual(sum(Fraction(*part) for part in found.values()), 1)
            self.assertEqual(Fraction(*tops[60]), p ** sum(range(60)))
            self.assertEqual(Fraction(*tops[1]), (1 - p) ** 59)
            self.assertEqual(Fraction(*lasts[60]), p ** sum(range(60)))

    def test_by_name(self):
        self.same(top_after(chance=[1, 3], many=2), {1: (2, 3), 2: (1, 3)})
        self.same(height_in(chance=[1, 3], many=1), {1: (1, 1)})


class ReachTests(Case):
    def test_example(self):
        history = [("insert", 1), ("insert", 2), ("remove", 1)]
        self.same(reach(history, ("step",)), [((2, 1),), ((2, 2),)])
        self.same(tosses_mean(history, (1, 2), ("step",)), (1, 1))
        self.same(strings(history, ((2, 1),), 3), 3)

    def histories(self):
        random = Random(18)
        yield from SAMPLES
        for _ in range(60):
            yield [(random.choice(("insert", "insert", "remove", "seek")), random.randrange(4)) for _ in range(6)]

    def test_all_coins(self):
        for history in self.histories():
            for rule in RULES:
                rows = played(history, (2, 5), rule)
                self.same(reach(history, rule), sorted({towers for towers, _, _ in rows}))
                self.same(tosses_most(history, rule), max(tossed for _, _, tossed in rows))
                mean = sum(part * tossed for _, part, tossed in rows)
                self.same(tosses_mean(history, (2, 5), rule), pair(mean))

    def test_longer_histories_by_step(self):
        random = Random(19)
        for rule in (("step",), ("step", 2), ("step", 3)):
            for _ in range(60):
                history = [(random.choice(("insert", "insert", "remove")), random.randrange(4)) for _ in range(11)]
                rows = played(history, (2, 5), rule)
                if len(rows) < 2000:
                    self.same(reach(history, rule), sorted({towers for towers, _, _ in rows}))
                    mean = sum(part * tossed for _, part, tossed in rows)
                    self.same(tosses_mean(history, (2, 5), rule), pair(mean))
                    self.same(tosses_most(history, rule), max(tossed for _, _, tossed in rows))

    def test_a_thousand_deeds(self):
        begin = [("insert", key) for key in range(12)]
        for first in (0, 5):
            history = begin + [(word, key % 12) for key in range(first, first + 494) for word in ("remove", "insert")]
            # By step 2 each insertion but that into nothing tosses one coin.
            self.same(tosses_mean(history, (7, 1000), ("step", 2)), (505, 1))
            self.same(tosses_most(history, ("step", 2)), 505)
            self.assertEqual(len(reach(history, ("step", 2))), 4096)
            self.same(tosses_mean(history, (1, 2), ("cap", 2)), (506, 1))
        history = begin[:2] + [(word, key % 2) for key in range(499) for word in ("remove", "insert")]
        self.assertEqual(tosses_most(history, ("step", 64)), sum(min(at, 63) for at in range(501)))
        mean = Fraction(*tosses_mean(history, (1, 2), ("step", 64)))
        # Each coin but the first one of a tower is tossed if the one before it was 1.
        self.assertTrue(500 < mean < 1002)

    def test_free(self):
        for history in self.histories():
            many = len([
                at for at, (word, key) in enumerate(history) if word == "insert" and key not in stays(history[:at])
            ])
            self.same(tosses_mean(history, (2, 5), ("free",)), pair(Fraction(5, 3) * many))
            self.same(tosses_most(history, ("free",)), None if many else 0)
            # What the greatest caps come to.
            by_cap = Fraction(*tosses_mean(history, (2, 5), ("cap", 64)))
            self.assertLess(abs(by_cap - Fraction(5, 3) * many), Fraction(1, 2 ** 60))

    def test_strings(self):
        for history in SAMPLES:
            many = sum(word == "insert" for word, _ in history)
            for cap in (1, 2, 3):
                counts = {}
                for length in range(many * (cap - 1) + 1):
                    for row in product((0, 1), repeat=length):
                        try:
                            towers, used, _ = run(history, row, ("cap", cap))
                        except Short:
                            continue
                        if used == length:
                            self.assertTrue(is_by(history, row, ("cap", cap), towers))
                            counts[towers] = counts.get(towers, 0) + 1
                self.assertEqual(sorted(counts), reach(history, ("cap", cap)))
                for towers, count in counts.items():
                    self.same(strings(history, towers, cap), count)
                for towers in ((), ((1, 1),), ((1, 4),), ((1, 1), (2, 3)), ((2, 4),), ((7, 1),)):
                    self.same(strings(history, towers, cap), counts.get(towers, 0))

    def test_great_strings(self):
        history = [("insert", 1), ("remove", 1)] * 500
        self.same(strings(history, (), 64), 64 ** 500)
        self.same(strings(cap=64, towers=[[1, 64]], history=history[:-1]), 64 ** 499)
        self.same(strings(history, ((1, 1),), 64), 0)

    def test_too_many(self):
        told = {"value": 5000}
        for keys, rule in ((13, ("cap", 2)), (3, ("cap", 64)), (9, ("step",)), (14, ("step", 2))):
            history = [("insert", key) for key in range(keys)]
            for more in ([], [("remove", 0)], [("remove", key) for key in range(keys)]):
                self.fails(NoNumber, told, reach, history + more, rule)
                if rule[0] == "step":
                    self.fails(NoNumber, told, tosses_mean, history + more, (1, 2), rule)
                    self.fails(NoNumber, told, tosses_most, history + more, rule)
                else:
                    # By a cap there may be as many as there like.
                    self.same(tosses_most(history + more, rule), keys * (rule[1] - 1))
                    self.assertGreater(tosses_mean(history + more, (1, 2), rule)[0], 0)
        for keys, rule, many in (
            (12, ("cap", 2), 4096), (2, ("cap", 64), 4096), (8, ("step",), 4140), (13, ("step", 2), 4096),
            (1000, ("cap", 1), 1), (1000, ("step", 1), 1),
        ):
            history = [("insert", key) for key in range(keys)]
            self.assertEqual(len(reach(history, rule)), many)
            self.assertEqual(tosses_most(history, rule), sum(
                min(at + 1, rule[1] if len(rule) == 2 else keys) - 1 for at in range(keys)
            ) if rule[0] == "step" else keys * (rule[1] - 1))
        # Towers that are removed and put in again let others grow: too many at last.
        history = [("insert", 1), ("insert", 2)] + [("remove", 1), ("insert", 1), ("remove", 2), ("insert", 2)] * 249
        self.fails(NoNumber, told, reach, history, ("step",))
        self.assertLess(len(reach(history, ("step", 20))), 401)

    def test_by_name(self):
        self.same(reach(rule=["cap", 2], history=[["insert", 1]]), [((1, 1),), ((1, 2),)])
        self.same(tosses_mean(rule=["free"], chance=[1, 2], history=[["insert", 1]]), (2, 1))
        self.same(tosses_most(rule=["cap", 3], history=[["insert", 1]]), 2)


class HistoryTests(Case):
    def fewest(self, rule, greatest, keys):
        """All towers of some keys that histories of few deeds lead to, each with the least number of deeds."""
        # Two keys more may help.
        deeds = [(word, key) for word in ("insert", "remove") for key in keys + (50, 51)]
        found = {}
        there = {(): 0}
        for many in range(greatest + 1):
            for towers in there:
                if all(key in keys for key, _ in towers):
                    found.setdefault(towers, many)
            behind = {}
            for towers in there:
                for deed in deeds:
                    is_there = deed[1] in [key for key, _ in towers]
                    if deed[0] == "remove" and is_there:
                        behind[tuple(pair for pair in towers if pair[0] != deed[1])] = True
                    if deed[0] == "insert" and not is_there:
                        for height in range(1, most(rule, top(towers)) + 1):
                            behind[tuple(sorted(towers + ((deed[1], height),)))] = True
            there = behind
        return found

    def test_all_histories_of_few_deeds(self):
        for rule, greatest in ((("step",), 5), (("step", 2), 5), (("step", 1), 3), (("cap", 2), 3), (("cap", 3), 3)):
            found = self.fewest(rule, greatest, (10, 20, 30))
            for many in range(4):
                for heights in product((1, 2, 3, 4), repeat=many):
                    towers = tuple(zip((10, 20, 30), heights))
                    deeds = deeds_for(towers, rule)
                    if towers in found:
                        self.same(deeds, found[towers])
                    else:
                        self.assertTrue(deeds is None or deeds > greatest)

    def test_histories_lead_there(self):
        for many in range(5):
            for towers in all_towers(many, 4):
                for rule in (("free",), ("cap", 4), ("cap", 3), ("step",), ("step", 4), ("step", 3)):
                    deeds, history = deeds_for(towers, rule), history_for(towers, rule)
                    if len(rule) == 2 and top(towers) > rule[1]:
                        self.same((deeds, history), (None, None))
                        continue
                    self.assertIs(type(history), list)
                    self.same(len(history), deeds)
                    gone = len([height for height in range(1, top(towers)) if height not in dict(towers).values()])
                    self.same(deeds, many + (2 * gone if rule[0] == "step" else 0))
                    self.leads(history, towers, rule)

    def leads(self, history, towers, rule):
        """Some coins lead there: helpers get the greatest height that they can."""
        wanted = dict(towers)
        used = ()
        there = {}
        for word, key in history:
            if word == "remove":
                del there[key]
                continue
            limit = most(rule, max(there.values(), default=0))
            there[key] = wanted.get(key, limit)
            self.assertTrue(limit is None or there[key] <= limit)
            used += coins_for(there[key], rule, max(list(there.values())[:-1], default=0))
        self.assertTrue(is_by(history, used, rule, towers))

    def test_small(self):
        self.same((deeds_for(((5, 3),), ("step",)), deeds_for(((5, 3),), ("cap", 2))), (5, None))
        self.same([deeds_for((), rule) for rule in RULES], [0] * len(RULES))
        self.same([history_for((), rule) for rule in RULES], [[]] * len(RULES))
        self.same(deeds_for(rule=["free"], towers=[[5, 64]]), 1)
        self.same(history_for(rule=["free"], towers=[[5, 64]]), [("insert", 5)])
        self.same(deeds_for(((LONG, 64),), ("step",)), 127)
        # Keys that could help are there already.
        towers = tuple([(key, 5) for key in range(-3, 6)])
        self.leads(history_for(towers, ("step",)), towers, ("step",))


class LikeliestTests(Case):
    def naive(self, keys, chance, rule):
        parts = alone_in(keys, chance, rule)
        greatest = max(parts.values())
        return pair(greatest), min(towers for towers, part in parts.items() if part == greatest)

    def test_the_chances_alone(self):
        for keys in ((), (4,), (4, 2), (2, 4), (5, 1, 3), (1, 2, 3), (3, 2, 1), (4, 1, 3, 2), (2, 5, 4, 1, 3)):
            for chance in CHANCES + [(1, 1000), (999, 1000), (2, 3), (3, 5)]:
                for rule in RULES + [("cap", 4), ("step", 4)]:
                    self.same(likeliest(keys, chance, rule), self.naive(keys, chance, rule))

    def test_ties(self):
        # By 1 / 2 both heights are as likely: the first towers have the lower one.
        self.same(likeliest([3, 2], (1, 2), ("cap", 2)), ((1, 4), ((2, 1), (3, 1))))
        self.same(likeliest([5, 3, 4], (1, 2), ("step",)), ((1, 4), ((3, 1), (4, 1), (5, 1))))

    def test_greatest(self):
        keys = list(range(60))[::-1]
        self.same(likeliest(keys, (999, 1000), ("cap", 1)), ((1, 1), tuple([(key, 1) for key in range(60)])))
        part, towers = likeliest(keys, (999, 1000), ("cap", 64))
        self.assertEqual(part, (999 ** 3780, 1000 ** 3780))
        self.same(towers, tuple([(key, 64) for key in range(60)]))
        self.assertEqual(likeliest(keys, (1, 1000), ("cap", 64))[0], (999 ** 60, 1000 ** 60))
        for rule in (("step",), ("step", 5)):
            part, towers = likeliest(keys[:12], (2, 3), rule)
            self.same(chance_in(towers, keys[:12], (2, 3), rule), part)

    def test_by_name(self):
        self.same(likeliest(rule=["cap", 2], chance=[1, 3], keys=[2]), ((2, 3), ((2, 1),)))


class WrongTests(Case):
    def test_wrong(self):
        of_finite = of_rule(("free",))
        self.refuses(orders, (TOWERS,), [(0, NoTowers, of_towers())])
        self.refuses(order_at, (TOWERS, 3), [(0, NoTowers, of_towers()), (1, NoNumber, of_number(-1, 4, LONG))])
        self.refuses(is_order, (TOWERS, (1, 2, 3)), [(0, NoTowers, of_towers())])
        self.refuses(chance_in, (TOWERS, (1, 2, 3), (1, 2), ("free",)), [
            (0, NoTowers, of_towers()), (1, NoKeys, of_new_keys()), (2, NoChance, of_chance()), (3, NoRule, of_rule()),
        ])
        self.refuses(mixed, (TOWERS, (1, 2)), [(0, NoTowers, of_towers()), (1, NoChance, of_chance())])
        for function in (top_after, height_in):
            finer = [((1, 21), {}), ((20, 21), {}), ((1, 1000), {})]
            self.refuses(function, (3, (1, 2)), [
                (0, NoNumber, of_number(0, -1, 61, LONG)), (1, NoChance, of_chance() + finer),
            ])
            self.assertEqual(len(function(3, (19, 20))), 3)
        history = [("insert", 1)]
        self.refuses(reach, (history, ("step",)), [(0, NoHistory, of_history()), (1, NoRule, of_finite)])
        for function in (deeds_for, history_for):
            self.refuses(function, (TOWERS, ("free",)), [(0, NoTowers, of_towers()), (1, NoRule, of_rule())])
        self.refuses(tosses_mean, (history, (1, 2), ("step",)), [
            (0, NoHistory, of_history()), (1, NoChance, of_chance()), (2, NoRule, of_rule()),
        ])
        self.refuses(tosses_most, (history, ("step",)), [(0, NoHistory, of_history()), (1, NoRule, of_rule())])
        self.refuses(strings, (history, ((1, 1),), 3), [
            (0, NoHistory, of_history()), (1, NoTowers, of_towers()), (2, NoNumber, of_number(0, -1, 65)),
        ])
        self.refuses(likeliest, ((1, 2), (1, 2), ("step",)), [
            (0, NoKeys, of_new_keys()), (1, NoChance, of_chance()), (2, NoRule, of_finite),
        ])

    def test_too_many_come_last(self):
        history = [("insert", key) for key in range(14)]
        for rule in (("free",), None, ("step", 0)):
            self.fails(NoRule, {}, reach, history, rule)
        self.fails(NoChance, {}, tosses_mean, history, (1, 1), ("step",))
        self.fails(NoRule, {}, tosses_mean, history, (1, 2), ("step", 65))

    def test_kept(self):
        towers, history = [[1, 1], [2, 2]], [["insert", 1], ["insert", 2], ["remove", 1]]
        self.keeps(orders, towers)
        self.keeps(order_at, towers, 0)
        self.keeps(is_order, towers, [1, 2])
        self.keeps(chance_in, towers, [1, 2], [1, 2], ["step"])
        self.keeps(mixed, towers, [1, 2])
        self.keeps(top_after, 3, [1, 2])
        self.keeps(height_in, 3, [1, 2])
        self.keeps(reach, history, ["step"])
        self.keeps(deeds_for, towers, ["step"])
        self.keeps(history_for, towers, ["step"])
        self.keeps(tosses_mean, history, [1, 2], ["step"])
        self.keeps(tosses_most, history, ["step"])
        self.keeps(strings, history, [[2, 1]], 3)
        self.keeps(likeliest, [2, 1], [1, 2], ["step"])


if __name__ == "__main__":
    unittest.main()
