import unittest
from fractions import Fraction
from functools import lru_cache
from itertools import combinations, product
from math import comb, gcd

from told import LONG, Case, odd_things, of_chance, of_manner, of_number, of_rule
from tosslanes.chances import (
    cheapest, coins_chance, coins_mean, cost_above, cost_chance, cost_chances, cost_mean, cost_spread, cut_by,
    downs_mean, height_chance, lane_chances, links_mean, mean_total, pair_chances, pair_mean, record_chances,
    record_mean, rights_mean, top_chance, top_mean,
)
from tosslanes.coins import coins_of
from tosslanes.errors import NoChance, NoManner, NoNumber, NoRule, NoSort
from tosslanes.pairs import Pair
from tosslanes.searches import cost, records, ways
from tosslanes.towers import links

MANNERS = ("plain", "lean", "early", "sharp")
FREE = ("free",)
# One of them is not in lowest terms.
CHANCES = ((1, 2), (2, 4), (1, 3), (3, 5))
CAPS = (1, 2, 3)
WRONG_SORTS = [(thing, {}) for thing in odd_things() + ["", "Weak", "weaker", b"weak", ["weak"], ("strict",), 0, 1]]


@lru_cache(None)
def rows_by_cap(chance, cap, many):
    """All rows of heights up to a cap, each with its chance."""
    p = Fraction(*chance)
    weights = [(1 - p) * p ** at for at in range(cap - 1)] + [p ** (cap - 1)]
    rows = []
    for row in product(range(cap), repeat=many):
        one = Fraction(1)
        for at in row:
            one *= weights[at]
        rows.append((tuple([at + 1 for at in row]), one))
    return rows


@lru_cache(None)
def orders_of(chance, many):
    """Which heights are alike and which are higher, by the rule free: rows of 1, 2, .., without gaps, with chances.

    The lowest ones of all that are left end in a lane together, while all others go on, whatever lane it is.
    """
    p = Fraction(*chance)
    rows = []
    for row in product(range(1, many + 1), repeat=many):
        tall = max(row, default=0)
        if len(set(row)) == tall:
            one = Fraction(1)
            for level in range(1, tall + 1):
                left = len([height for height in row if height >= level])
                here = row.count(level)
                one *= (1 - p) ** here * p ** (left - here) / (1 - p ** left)
            rows.append((row, one))
    return rows


def gathered(rows, told):
    """The dict, rising, from what is told of each row to its chance."""
    found = {}
    for row, one in rows:
        key = told(row)
        found[key] = found.get(key, 0) + one
    return {key: found[key] for key in sorted(found)}


@lru_cache(None)
def compared(row, index, manner):
    return cost(tuple(enumerate(row)), index, manner)


def mean(found):
    return sum([key * one for key, one in found.items()], Fraction(0))


def covered(found):
    """The mean of the product, less the product of the means."""
    both = sum([one * other * chance for (one, other), chance in found.items()], Fraction(0))
    firsts = sum([one * chance for (one, _), chance in found.items()], Fraction(0))
    return both - firsts * sum([other * chance for (_, other), chance in found.items()], Fraction(0))


class ChanceCase(Case):
    def value(self, found):
        """A fraction, in lowest terms, and of the right form."""
        self.assertIs(found.__class__, tuple)
        top, below = found
        self.assertIs(top.__class__, int)
        self.assertIs(below.__class__, int)
        self.assertGreaterEqual(below, 1)
        self.assertEqual(gcd(top, below), 1)
        return Fraction(top, below)

    def alike(self, found, wanted):
        self.assertEqual(self.value(found), wanted)

    def dicts_alike(self, found, wanted):
        self.assertIs(found.__class__, dict)
        self.assertEqual(list(found), list(wanted))
        for key, one in wanted.items():
            self.assertGreater(one, 0)
            self.alike(found[key], one)
        self.assertEqual(sum([self.value(one) for one in found.values()], Fraction(0)), 1)

    def near(self, found, other, most):
        self.assertLessEqual(abs(self.value(found) - self.value(other)), most)

    def check_numbers(self, place, found):
        self.alike(cost_mean(*place), mean(found))
        squares = sum([key * key * one for key, one in found.items()])
        self.alike(cost_spread(*place), squares - mean(found) ** 2)
        for compares in range(9):
            self.alike(cost_chance(*place, compares), found.get(compares, 0))
            more = sum([one for key, one in found.items() if key > compares])
            self.alike(cost_above(*place, compares), more)


class ExampleTests(ChanceCase):
    def test_examples(self):
        self.same(top_mean((1, 2), FREE, 2), (8, 3))
        self.same(record_chances((1, 2), FREE, 2, "weak"), {1: (1, 3), 2: (2, 3)})
        self.same(cost_mean((1, 2), FREE, 2, 0, "plain"), (11, 3))
        self.same(cost_mean((1, 2), FREE, 2, 1, "plain"), (4, 1))
        self.same(cost_chances((1, 2), ("cap", 2), 2, 0, "early"), {1: (3, 4), 2: (1, 4)})


class CapTests(ChanceCase):
    """By caps: all rows of heights with their chances."""

    def cases(self, most):
        for chance in CHANCES:
            for cap in CAPS:
                for many in range(most + 1):
                    yield chance, ("cap", cap), many, rows_by_cap(chance, cap, many)

    def test_heights(self):
        for chance, rule, many, rows in self.cases(3):
            tops = gathered(rows, lambda row: max(row, default=0))
            self.alike(top_mean(chance, rule, many), mean(tops))
            for height in range(5):
                self.alike(top_chance(chance, rule, many, height), tops.get(height, 0))
                if many == 1 and height > 0:
                    self.alike(height_chance(chance, rule, height), tops.get(height, 0))
            for level in range(1, 5):
                found = gathered(rows, lambda row: len([height for height in row if height >= level]))
                self.dicts_alike(lane_chances(chance, rule, many, level), found)
            found = gathered(rows, lambda row: len(links(tuple(enumerate(row)))))
            self.alike(links_mean(chance, rule, many), mean(found))

    def test_coins(self):
        for chance, rule, many, rows in self.cases(4):
            found = gathered(rows, lambda row: len(coins_of(row, rule)))
            self.alike(coins_mean(chance, rule, many), mean(found))
            for count in range(12):
                self.alike(coins_chance(chance, rule, many, count), found.get(count, 0))

    def test_records(self):
        for chance, rule, many, rows in self.cases(4):
            for at, sort in enumerate(("weak", "strict")):
                found = gathered(rows, lambda row: records(row)[at])
                self.dicts_alike(record_chances(chance, rule, many, sort), found)
                self.alike(record_mean(chance, rule, many, sort), mean(found))

    def test_costs(self):
        for chance, rule, many, rows in self.cases(4):
            for manner in MANNERS:
                total = 0
                for index in range(many):
                    place = (chance, rule, many, index, manner)
                    found = gathered(rows, lambda row: compared(row, index, manner)[2])
                    total += mean(found)
                    self.dicts_alike(cost_chances(*place), found)
                    self.check_numbers(place, found)
                    self.alike(rights_mean(*place), mean(gathered(rows, lambda row: compared(row, index, manner)[0])))
                    self.alike(downs_mean(*place), mean(gathered(rows, lambda row: compared(row, index, manner)[1])))
                self.alike(mean_total(chance, rule, many, manner), total)

    def test_pairs(self):
        for chance, rule, many, rows in self.cases(4):
            for one, other in combinations(range(many), 2):
                for manner in MANNERS:
                    found = gathered(rows, lambda row: (
                        compared(row, one, manner)[2], compared(row, other, manner)[2],
                    ))
                    self.dicts_alike(pair_chances(chance, rule, many, one, other, manner), found)
                    self.alike(pair_mean(chance, rule, many, one, other, manner), covered(found))

    def test_ways(self):
        # With the chance 1 / 2 and the cap 2 all rows are alike.
        for manner in MANNERS:
            for many in range(1, 8):
                for index in range(many):
                    found = {key: Fraction(count, 2 ** many) for key, count in ways(many, index, 2, manner).items()}
                    self.dicts_alike(cost_chances((1, 2), ("cap", 2), many, index, manner), found)

    def test_cap_1(self):
        rule = ("cap", 1)
        self.same(height_chance((1, 2), rule, 1), (1, 1))
        self.same(height_chance((1, 2), rule, 2), (0, 1))
        self.same([coins_chance((1, 3), rule, 30, count) for count in (0, 1, 30)], [(1, 1), (0, 1), (0, 1)])
        self.same(coins_mean((1, 3), rule, 30), (0, 1))
        self.same(cost_chances((1, 3), rule, 12, 5, "sharp"), {6: (1, 1)})
        self.same(cost_spread((1, 3), rule, 30, 5, "plain"), (0, 1))


class FreeTests(ChanceCase):
    """By the rule free: which heights are alike and which are higher; series; and caps as they grow."""

    def test_top_mean(self):
        for chance in CHANCES + ((19, 20), (1, 20)):
            p = Fraction(*chance)
            for many in range(31):
                parts = [(-1) ** (k + 1) * comb(many, k) / (1 - p ** k) for k in range(1, many + 1)]
                self.alike(top_mean(chance, FREE, many), sum(parts, Fraction(0)))

    def test_heights(self):
        for chance in CHANCES:
            p = Fraction(*chance)
            for height in (1, 2, 3, 64):
                self.alike(height_chance(chance, FREE, height), (1 - p) * p ** (height - 1))
                for many in (0, 1, 2, 30):
                    lower = [(1 - p ** one) ** many for one in (height, height - 1)]
                    self.alike(top_chance(chance, FREE, many, height), lower[0] - lower[1])
            for many in range(13):
                for level in (1, 2, 5):
                    reach = p ** (level - 1)
                    found = {k: comb(many, k) * reach ** k * (1 - reach) ** (many - k) for k in range(many + 1)}
                    found = {k: one for k, one in found.items() if one > 0}
                    self.dicts_alike(lane_chances(chance, FREE, many, level), found)
                self.alike(links_mean(chance, FREE, many), many / (1 - p) + self.value(top_mean(chance, FREE, many)))
        self.same([top_chance((1, 2), FREE, 0, height) for height in (0, 1, 64)], [(1, 1), (0, 1), (0, 1)])
        self.same(top_chance((1, 2), FREE, 3, 0), (0, 1))

    def test_coins(self):
        for chance in CHANCES:
            p = Fraction(*chance)
            for many in range(1, 31, 7):
                self.alike(coins_mean(chance, FREE, many), many / (1 - p))
                for count in (0, 1, many, many + 1, 60, 200):
                    ends = comb(count - 1, many - 1) * (1 - p) ** many * p ** (count - many) if count >= many else 0
                    self.alike(coins_chance(chance, FREE, many, count), ends)
        self.same([coins_chance((1, 2), FREE, 0, count) for count in (0, 1, 200)], [(1, 1), (0, 1), (0, 1)])

    def test_records(self):
        for chance in CHANCES:
            for many in range(6):
                for at, sort in enumerate(("weak", "strict")):
                    found = gathered(orders_of(chance, many), lambda row: records(row)[at])
                    self.dicts_alike(record_chances(chance, FREE, many, sort), found)
                    self.alike(record_mean(chance, FREE, many, sort), mean(found))

    def test_lean_and_sharp(self):
        for chance in CHANCES:
            for many in range(5):
                rows = orders_of(chance, many)
                for index, manner in product(range(many), ("lean", "sharp")):
                    found = gathered(rows, lambda row: compared(row, index, manner)[2])
                    self.dicts_alike(cost_chances(chance, FREE, many, index, manner), found)
                    self.check_numbers((chance, FREE, many, index, manner), found)
                    for other in range(index + 1, many):
                        found = gathered(rows, lambda row: (
                            compared(row, index, manner)[2], compared(row, other, manner)[2],
                        ))
                        self.dicts_alike(pair_chances(chance, FREE, many, index, other, manner), found)
                        self.alike(pair_mean(chance, FREE, many, index, other, manner), covered(found))

    def test_rights(self):
        # Which keys are gone over does not depend on how much higher heights are.
        for chance in CHANCES:
            for many in range(5):
                for index, manner in product(range(many), MANNERS):
                    found = gathered(orders_of(chance, many), lambda row: compared(row, index, manner)[0])
                    self.alike(rights_mean(chance, FREE, many, index, manner), mean(found))

    def test_one_key(self):
        # An own height of h costs h looks and one more by plain.
        for chance in CHANCES:
            p = Fraction(*chance)
            for compares in range(9):
                wanted = (1 - p) * p ** (compares - 2) if compares > 1 else 0
                self.alike(cost_chance(chance, FREE, 1, 0, "plain", compares), wanted)
                self.alike(cost_above(chance, FREE, 1, 0, "plain", compares), p ** max(compares - 1, 0))
                self.alike(cost_chance(chance, FREE, 1, 0, "early", compares), 1 if compares == 1 else 0)
            self.alike(cost_mean(chance, FREE, 1, 0, "plain"), 1 / (1 - p) + 1)
            self.alike(cost_spread(chance, FREE, 1, 0, "plain"), p / (1 - p) ** 2)
            self.alike(downs_mean(chance, FREE, 1, 0, "plain"), 1 / (1 - p) - 1)
            self.alike(downs_mean(chance, FREE, 1, 0, "early"), 0)

    def test_two_keys_early(self):
        # The first of two keys, early: one look, and one more for each lane in which only the second one is.
        for chance in CHANCES:
            p = Fraction(*chance)
            lower = p * (1 - p) / (1 - p * p)
            for compares in range(1, 9):
                wanted = lower * p ** (compares - 2) * (1 - p) if compares > 1 else 1 - lower
                self.alike(cost_chance(chance, FREE, 2, 0, "early", compares), wanted)
                self.alike(cost_above(chance, FREE, 2, 0, "early", compares), lower * p ** (compares - 1))

    def test_as_caps_grow(self):
        for chance in ((1, 2), (2, 3), (3, 20)):
            for many in (1, 2, 3, 7):
                for index, manner in product(range(0, many, 2), MANNERS):
                    self.check_caps(chance, many, index, manner)

    def check_caps(self, chance, many, index, manner):
        p = Fraction(*chance)
        for cap in (5, 64):
            rule = ("cap", cap)
            bound = many * p ** cap
            for function in (cost_chance, cost_above):
                for compares in (0, 1, 2, 3, 6, 11, 200):
                    place = (many, index, manner, compares)
                    self.near(function(chance, FREE, *place), function(chance, rule, *place), bound)
            # Costs of what goes beyond the cap are no great ones either.
            bound *= 10000 * cap ** 2
            for function in (cost_mean, cost_spread, rights_mean, downs_mean):
                place = (many, index, manner)
                self.near(function(chance, FREE, *place), function(chance, rule, *place), bound)
            for function in (top_mean, links_mean, coins_mean):
                self.near(function(chance, FREE, many), function(chance, rule, many), bound)
            free = mean_total(chance, FREE, many, manner)
            capped = mean_total(chance, rule, many, manner)
            self.near(free, capped, bound)
            self.alike(cut_by(chance, cap, many, manner), self.value(free) - self.value(capped))

    def test_costs_add_up(self):
        for manner, index in product(MANNERS, (0, 3, 6)):
            place = ((2, 5), FREE, 7, index, manner)
            chances = [self.value(cost_chance(*place, compares)) for compares in range(60)]
            for at in range(0, 60, 7):
                self.alike(cost_above(*place, at), 1 - sum(chances[:at + 1]))
            rest = self.value(cost_above(*place, 59))
            self.assertLess(rest, Fraction(1, 10 ** 9))
            means = sum([at * one for at, one in enumerate(chances)])
            self.assertLess(abs(self.value(cost_mean(*place)) - means), Fraction(1, 10 ** 9))
            squares = sum([at * at * one for at, one in enumerate(chances)])
            self.assertLess(abs(self.value(cost_spread(*place)) - squares + means ** 2), Fraction(1, 10 ** 9))

    def test_pair_mean_as_caps_grow(self):
        # By plain and early there are endlessly many pairs, but the mean is there.
        for many in (2, 3, 4):
            for one, other in combinations(range(many), 2):
                for manner in MANNERS:
                    found = pair_mean((2, 5), FREE, many, one, other, manner)
                    near = Pair((2, 5), 60, many, (one, other), manner).spread()
                    self.near(found, near, Fraction(1, 10 ** 15))

    def test_no_dicts(self):
        for manner in ("plain", "early"):
            self.fails(NoManner, {}, cost_chances, (1, 2), FREE, 3, 0, manner)
            self.fails(NoManner, {}, pair_chances, (1, 2), FREE, 3, 0, 1, manner)
            self.fails(NoNumber, {"value": 3}, cost_chances, (1, 2), FREE, 3, 3, manner)
            self.fails(NoNumber, {"value": 0}, pair_chances, (1, 2), FREE, 3, 0, 0, manner)


class NoKeyTests(ChanceCase):
    def test_no_keys(self):
        for rule in (FREE, ("cap", 1), ("cap", 3)):
            chance = (1, 2)
            self.same(top_mean(chance, rule, 0), (0, 1))
            self.same(lane_chances(chance, rule, 0, 2), {0: (1, 1)})
            self.same(links_mean(chance, rule, 0), (0, 1))
            self.same(coins_mean(chance, rule, 0), (0, 1))
            for sort in ("weak", "strict"):
                self.same(record_chances(chance, rule, 0, sort), {0: (1, 1)})
                self.same(record_mean(chance, rule, 0, sort), (0, 1))
            for manner in MANNERS:
                self.same(mean_total(chance, rule, 0, manner), (0, 1))
                self.same(cheapest([(1, 3), (1, 2)], rule, 0, manner), 0)
                self.same(cut_by(chance, 3, 0, manner), (0, 1))
                for function in (cost_chances, cost_mean, cost_spread, rights_mean, downs_mean):
                    self.fails(NoNumber, {"value": 0}, function, chance, rule, 0, 0, manner)
                    self.fails(NoNumber, {"value": 3}, function, chance, rule, 0, 3, manner)
                for function in (cost_chance, cost_above):
                    self.fails(NoNumber, {"value": 0}, function, chance, rule, 0, 0, manner, 1)
                for function in (pair_chances, pair_mean):
                    self.fails(NoNumber, {"value": 0}, function, chance, rule, 0, 0, 1, manner)
                    self.fails(NoNumber, {"value": 0}, function, chance, rule, 1, 0, 0, manner)
                    # No keys are no wrong number of keys: it is the index that is wrong.
                    self.fails(NoNumber, {"value": 3}, function, chance, rule, 0, 3, 5, manner)
                    self.fails(NoNumber, {"value": 5}, function, chance, rule, 4, 3, 5, manner)


class GreatestTests(ChanceCase):
    """The greatest arguments: all is answered at once, and fits together."""

    def test_costs(self):
        for rule in (FREE, ("cap", 64)):
            for manner in MANNERS:
                place = ((9, 20), rule, 30, 14, manner)
                rest = self.value(cost_above(*place, 19)) - self.value(cost_above(*place, 20))
                self.alike(cost_chance(*place, 20), rest)
                self.assertGreater(self.value(cost_spread(*place)), 0)
                self.assertLess(self.value(cost_above(*place, 200)), Fraction(1, 10 ** 30))
                self.assertGreaterEqual(self.value(cost_mean(*place)), self.value(rights_mean(*place)))
                total = sum([self.value(cost_mean((9, 20), rule, 30, index, manner)) for index in range(30)])
                self.alike(mean_total((9, 20), rule, 30, manner), total)

    def test_dicts(self):
        for rule in (FREE, ("cap", 64)):
            for sort in ("weak", "strict"):
                found = record_chances((19, 20), rule, 12, sort)
                self.assertEqual(sum([self.value(one) for one in found.values()]), 1)
                self.assertEqual(list(found), list(range(1, 13)))
                means = mean({key: self.value(one) for key, one in found.items()})
                self.alike(record_mean((19, 20), rule, 12, sort), means)
            for manner in ("lean", "sharp"):
                found = cost_chances((19, 20), rule, 12, 6, manner)
                self.assertEqual(sum([self.value(one) for one in found.values()]), 1)
                means = mean({key: self.value(one) for key, one in found.items()})
                self.alike(cost_mean((19, 20), rule, 12, 6, manner), means)
        for rule, manner in ((FREE, "lean"), (FREE, "sharp"), (("cap", 6), "plain"), (("cap", 6), "early")):
            found = pair_chances((9, 20), rule, 8, 2, 5, manner)
            self.assertEqual(list(found), sorted(found))
            self.assertEqual(sum([self.value(one) for one in found.values()]), 1)
            self.alike(pair_mean((9, 20), rule, 8, 2, 5, manner), covered({k: self.value(v) for k, v in found.items()}))

    def test_heights(self):
        self.same(height_chance((1, 2), ("cap", 64), 64), (1, 2 ** 63))
        self.same(height_chance((1, 2), FREE, 64), (1, 2 ** 64))
        self.same(height_chance((1, 2), ("cap", 63), 64), (0, 1))
        self.same(lane_chances((1, 2), ("cap", 3), 12, 64), {0: (1, 1)})
        self.assertEqual(len(lane_chances((1, 2), ("cap", 64), 12, 64)), 13)
        self.same(coins_chance((1, 2), ("cap", 64), 30, 29), (0, 1))
        self.same(coins_chance((1, 2), ("cap", 64), 30, 30), (1, 2 ** 30))

    def test_large_chances(self):
        self.same(height_chance((999, 1000), FREE, 1), (1, 1000))
        self.same(top_mean((999, 1000), FREE, 1), (1000, 1))


class CheapestTests(ChanceCase):
    def test_least(self):
        for rule in (FREE, ("cap", 4)):
            for manner in MANNERS:
                row = [(9, 10), (1, 2), (1, 3), (2, 4), (1, 20), (1, 4), (2, 6), (3, 4), (2, 3)]
                totals = [self.value(mean_total(chance, rule, 9, manner)) for chance in row]
                self.same(cheapest(row, rule, 9, manner), totals.index(min(totals)))
                self.same(cheapest(tuple(row[1:2]), rule, 9, manner), 0)
        # Of two that are alike it is the first one.
        self.same(cheapest([(9, 10), (2, 4), (1, 2)], FREE, 5, "plain"), 1)
        self.same(cheapest([(1, 2)] * 9, FREE, 5, "sharp"), 0)

    def test_wrong_rows(self):
        for thing in ([], (), [(1, 2)] * 10):
            self.fails(NoChance, {}, cheapest, thing, FREE, 3, "plain")
        for thing, _ in of_chance():
            self.fails(NoChance, {}, cheapest, [thing], FREE, 3, "plain")
            self.fails(NoChance, {}, cheapest, [(1, 2), thing], ("step",), -1, "")
        self.fails(NoChance, {}, cheapest, (1, 2), FREE, 3, "plain")


def numbers(least, greatest):
    return of_number(least - 1, greatest + 1, LONG, -LONG)


class WrongTests(ChanceCase):
    def check(self, function, right, *checks):
        rules = of_rule(("step",), ("step", 3), ["step"])
        self.refuses(function, right, [(0, NoChance, of_chance()), (1, NoRule, rules), *checks])

    def test_heights_and_coins(self):
        many = (2, NoNumber, numbers(0, 30))
        few = (2, NoNumber, numbers(0, 12))
        for rule in (FREE, ("cap", 3)):
            self.check(height_chance, ((1, 2), rule, 2), (2, NoNumber, numbers(1, 64)))
            self.check(top_chance, ((1, 2), rule, 2, 2), many, (3, NoNumber, numbers(0, 64)))
            for function in (top_mean, links_mean, coins_mean):
                self.check(function, ((1, 2), rule, 2), many)
            self.check(lane_chances, ((1, 2), rule, 2, 2), few, (3, NoNumber, numbers(1, 64)))
            self.check(coins_chance, ((1, 2), rule, 2, 2), many, (3, NoNumber, numbers(0, 200)))
            self.check(record_chances, ((1, 2), rule, 2, "weak"), few, (3, NoSort, WRONG_SORTS))
            self.check(record_mean, ((1, 2), rule, 2, "weak"), many, (3, NoSort, WRONG_SORTS))

    def test_costs(self):
        many = (2, NoNumber, numbers(0, 30))
        index = (3, NoNumber, numbers(0, 4))
        manner = (4, NoManner, of_manner())
        for rule in (FREE, ("cap", 3)):
            for function in (cost_mean, cost_spread, rights_mean, downs_mean):
                self.check(function, ((1, 2), rule, 5, 2, "sharp"), many, index, manner)
            self.check(cost_chances, ((1, 2), rule, 5, 2, "sharp"), (2, NoNumber, numbers(0, 12)), index, manner)
            self.check(mean_total, ((1, 2), rule, 5, "sharp"), many, (3, NoManner, of_manner()))
            for function in (cost_chance, cost_above):
                right = ((1, 2), rule, 5, 2, "sharp", 3)
                self.check(function, right, many, index, manner, (5, NoNumber, numbers(0, 200)))
            # A row of one chance is no wrong row.
            rows = [(thing, told) for thing, told in of_chance() if thing != ((1, 2),)]
            self.refuses(cheapest, ([(1, 2)], rule, 5, "sharp"), [
                (0, NoChance, rows), (1, NoRule, of_rule(("step",), ("step", 3))), many,
                (3, NoManner, of_manner()),
            ])
        self.refuses(cut_by, ((1, 2), 3, 5, "sharp"), [
            (0, NoChance, of_chance()), (1, NoNumber, numbers(1, 64)), many, (3, NoManner, of_manner()),
        ])

    def test_pairs(self):
        rules = of_rule(("step",), ("step", 3), ("cap", 7), ("cap", 64))
        for function in (pair_chances, pair_mean):
            for rule in (FREE, ("cap", 6)):
                self.refuses(function, ((1, 2), rule, 4, 1, 2, "lean"), [
                    (0, NoChance, of_chance()), (1, NoRule, rules), (2, NoNumber, numbers(0, 8)),
                    (3, NoNumber, numbers(0, 3)), (4, NoNumber, of_number(-1, 0, 1, 4, LONG)),
                    (5, NoManner, of_manner()),
                ])


class UseTests(ChanceCase):
    def test_by_name(self):
        self.same(cost_above(compares=1, manner="early", index=0, many=2, rule=["cap", 2], chance=[2, 4]), (1, 4))
        self.same(pair_mean(manner="lean", other=1, one=0, many=2, rule=("cap", 1), chance=(1, 2)), (0, 1))
        self.same(cut_by(manner="plain", many=1, cap=1, chance=(1, 2)), (1, 1))
        self.same(cheapest(manner="plain", many=1, rule=FREE, chances=[[1, 2], [1, 3]]), 1)
        self.same(coins_chance(count=2, many=1, rule=FREE, chance=(1, 2)), (1, 4))
        self.same(lane_chances(level=2, many=1, rule=FREE, chance=(1, 2)), {0: (1, 2), 1: (1, 2)})
        self.same(record_mean(sort="strict", many=1, rule=FREE, chance=(1, 2)), (1, 1))

    def test_nothing_changes(self):
        chance, rule = [2, 4], ["cap", 3]
        self.keeps(lane_chances, chance, rule, 4, 2)
        self.keeps(record_chances, chance, rule, 4, "weak")
        self.keeps(cost_chances, chance, rule, 4, 1, "early")
        self.keeps(pair_chances, chance, rule, 4, 1, 2, "lean")
        self.keeps(pair_chances, chance, ["free"], 4, 1, 2, "lean")
        self.keeps(cheapest, [[1, 2], [1, 3]], ["free"], 4, "early")
        self.keeps(cost_mean, chance, ["free"], 4, 1, "early")


if __name__ == "__main__":
    unittest.main()
