import unittest
from itertools import product

from told import LONG, NO_CHANCES, NO_RULES, Case, nested, no_integers, no_rows
from tosslanes.coins import (
    coins_for, coins_of, heights_of, is_chance, is_coin, is_rule, most, toss,
)
from tosslanes.errors import NoCoins, NoHeights, NoNumber, NoRule, Short, Spare

FREE = ("free",)
STEP = ("step",)
RULES = [
    FREE, STEP, ("cap", 1), ("cap", 2), ("cap", 3), ("cap", 64), ("step", 1), ("step", 2), ("step", 3), ("step", 64),
]
# Each function that takes a rule, as a function of it, the other arguments being right.
RULE_TAKERS = [
    lambda rule: most(rule, 0), lambda rule: toss((0,), 0, rule, 0), lambda rule: coins_for(1, rule, 0),
    lambda rule: coins_of((1,), rule), lambda rule: heights_of((0,), rule),
]


def limit(rule, tall):
    """How high a tower may grow, 1000 for free; written anew from the words of section 5."""
    least = {"free": 1000, "cap": 1000, "step": tall + 1}[rule[0]]
    return min([least, *rule[1:]])


def played(coins, rule):
    """The heights that just these coins give, and how many keys at the end took none; None if they do not fit."""
    found = []
    used = 0
    while used < len(coins):
        height = 1
        ahead = used
        allowed = limit(rule, max(found, default=0))
        while height < allowed:
            if used == len(coins):
                return None
            used += 1
            if coins[used - 1] == 0:
                break
            height += 1
        found.append(height)
        if ahead == used and len(found) > 1:
            return None
    return found


class RuleTests(Case):
    def test_rules(self):
        for rule in RULES:
            self.same(is_rule(rule), True)
            self.same(is_rule(list(rule)), True)

    def test_no_rules(self):
        for rule in NO_RULES + no_rows():
            for number, function in enumerate(RULE_TAKERS):
                with self.subTest(number=number):
                    self.same(is_rule(rule), False)
                    self.fails(NoRule, {}, function, rule)

    def test_odd_words_and_numbers(self):
        for thing in no_integers():
            with self.subTest(thing):
                self.same(is_rule(["cap", thing]), False)
                self.same(is_rule(["step", thing]), False)
                self.same(is_rule([thing, 3]), False)
                if thing != "free":
                    self.same(is_rule([thing]), False)

    def test_rules_as_lists(self):
        self.same(most(["cap", 3], 0), 3)
        self.same(toss([1, 1, 1], 0, ["step"], 1), (2, 1))
        self.same(coins_for(2, ["free"], 0), (1, 0))
        self.same(coins_of([1, 2], ["step", 2]), (1,))
        self.same(heights_of([1, 0], ["free"]), [2])


class ChanceTests(Case):
    def test_chances(self):
        for thing in ((1, 2), [1, 2], (999, 1000), (1, 1000), (2, 4)):
            self.same(is_chance(thing), True)

    def test_no_chances(self):
        for thing in NO_CHANCES + no_rows():
            with self.subTest(thing):
                self.same(is_chance(thing), False)


class CoinTests(Case):
    def test_coins(self):
        self.same([is_coin(thing) for thing in (0, 1, 2, -1, LONG)], [True, True, False, False, False])
        for thing in no_integers():
            with self.subTest(thing):
                self.same(is_coin(thing), False)

    def test_no_coins(self):
        for thing in no_rows():
            with self.subTest(thing):
                self.fails(NoCoins, {"index": -1}, toss, thing, 0, FREE, 0)
                self.fails(NoCoins, {"index": -1}, heights_of, thing, FREE)
        for thing in no_integers() + [2, -1, LONG]:
            with self.subTest(thing):
                self.fails(NoCoins, {"index": 0}, toss, [thing], 0, FREE, 0)
                self.fails(NoCoins, {"index": 2}, toss, (0, 1, thing, thing), 0, FREE, 0)
                self.fails(NoCoins, {"index": 0}, heights_of, (thing,), FREE)
                self.fails(NoCoins, {"index": 2}, heights_of, [0, 1, thing, thing], FREE)


class MostTests(Case):
    def test_each_rule(self):
        self.same([most(FREE, at) for at in (0, 1, 64, LONG)], [None] * 4)
        self.same([most(("cap", 1), at) for at in (0, 1, 64)], [1, 1, 1])
        self.same([most(("cap", 5), at) for at in (0, 4, 5, 64)], [5, 5, 5, 5])
        self.same([most(("cap", 64), at) for at in (0, 64)], [64, 64])
        self.same([most(STEP, at) for at in (0, 1, 63, 64)], [1, 2, 64, 65])
        self.same([most(("step", 1), at) for at in (0, 1, 2)], [1, 1, 1])
        self.same([most(("step", 3), at) for at in (0, 1, 2, 3, 4, 64)], [1, 2, 3, 3, 3, 3])
        self.same([most(("step", 64), at) for at in (0, 62, 63, 64)], [1, 63, 64, 64])
        self.same(most(rule=("cap", 2), top=9), 2)
        self.keeps(most, ["cap", 3], 0)

    def test_no_top(self):
        for rule in RULES:
            for thing in no_integers() + [-1, -LONG]:
                with self.subTest(rule, thing=thing):
                    self.fails(NoNumber, {"value": thing}, most, rule, thing)

    def test_rule_comes_first(self):
        self.fails(NoRule, {}, most, ("cap", 0), -1)
        self.fails(NoRule, {}, most, None, None)


class TossTests(Case):
    def test_free(self):
        self.same(toss((0,), 0, FREE, 0), (1, 1))
        self.same(toss((1, 1, 0, 1), 0, FREE, 0), (3, 3))
        self.same(toss([1, 1, 0, 1, 0], 2, FREE, 7), (1, 3))
        self.same(toss([1, 1, 0, 1, 0], 3, FREE, 0), (2, 5))
        self.same(toss([1] * 100 + [0], 0, FREE, 0), (101, 101))

    def test_cap(self):
        self.same(toss((), 0, ("cap", 1), 0), (1, 0))
        self.same(toss((1, 1), 1, ("cap", 1), 5), (1, 1))
        self.same(toss((1, 1, 1), 0, ("cap", 2), 0), (2, 1))
        self.same(toss((1, 1, 1), 1, ("cap", 3), 0), (3, 3))
        self.same(toss((0, 1, 1), 0, ("cap", 3), 0), (1, 1))
        self.same(toss([1] * 70, 0, ("cap", 64), 0), (64, 63))

    def test_step(self):
        self.same(toss((), 0, STEP, 0), (1, 0))
        self.same(toss((1, 1, 1), 0, STEP, 0), (1, 0))
        self.same(toss((1, 1, 1), 0, STEP, 1), (2, 1))
        self.same(toss((1, 1, 1), 1, STEP, 2), (3, 3))
        self.same(toss((1, 0, 1), 0, STEP, 2), (2, 2))
        self.same(toss((1, 1, 1), 0, ("step", 1), 9), (1, 0))
        self.same(toss((1, 1, 1), 0, ("step", 2), 9), (2, 1))
        self.same(toss([1] * 70, 0, ("step", 64), 64), (64, 63))
        self.same(toss([1] * 70, 0, STEP, 64), (65, 64))

    def test_place_behind_the_last_coin(self):
        for rule in (("cap", 1), ("step", 1), STEP, ("step", 3)):
            self.same(toss((1, 0), 2, rule, 0), (1, 2))
        for rule in (FREE, ("cap", 2)):
            self.fails(Short, {"index": 2}, toss, (1, 0), 2, rule, 0)
            self.fails(Short, {"index": 0}, toss, (), 0, rule, 0)

    def test_short(self):
        self.fails(Short, {"index": 3}, toss, (0, 1, 1), 1, FREE, 0)
        self.fails(Short, {"index": 3}, toss, [0, 1, 1], 2, ("cap", 4), 0)
        self.fails(Short, {"index": 2}, toss, [1, 1], 0, ("cap", 4), 0)
        self.fails(Short, {"index": 1}, toss, [1], 0, STEP, 2)
        self.same(toss([1, 1, 1], 0, ("cap", 4), 0), (4, 3))

    def test_names_and_unchanged(self):
        self.same(toss(coins=[0, 1, 0], at=1, rule=["free"], top=0), (2, 3))
        self.keeps(toss, [0, 1, 0], 1, ["free"], 0)

    def test_no_place(self):
        for thing in no_integers() + [-1, 3, LONG, -LONG]:
            with self.subTest(thing):
                self.fails(NoNumber, {"value": thing}, toss, (0, 0), thing, FREE, 0)
        self.fails(NoNumber, {"value": 1}, toss, (), 1, ("cap", 1), 0)

    def test_no_top(self):
        for rule in RULES:
            for thing in no_integers() + [-1]:
                with self.subTest(rule, thing=thing):
                    self.fails(NoNumber, {"value": thing}, toss, (0,), 0, rule, thing)

    def test_which_error_comes_first(self):
        self.fails(NoCoins, {"index": 1}, toss, (1, 2), -1, None, -2)
        self.fails(NoNumber, {"value": -1}, toss, (1, 1), -1, None, -2)
        self.fails(NoRule, {}, toss, (1, 1), 0, None, -2)
        self.fails(NoNumber, {"value": -2}, toss, (1, 1), 0, FREE, -2)
        self.fails(Short, {"index": 2}, toss, (1, 1), 0, FREE, 2)


class CoinsForTests(Case):
    def test_each_rule(self):
        self.same([coins_for(height, FREE, 0) for height in (1, 2, 4)], [(0,), (1, 0), (1, 1, 1, 0)])
        self.same([coins_for(height, ("cap", 1), 9) for height in (1, 2, 64)], [(), None, None])
        self.same([coins_for(height, ("cap", 3), 9) for height in (1, 2, 3, 4)], [(0,), (1, 0), (1, 1), None])
        self.same([coins_for(height, ("cap", 64), 0) for height in (63, 64, 65)], [(1,) * 62 + (0,), (1,) * 63, None])
        self.same([coins_for(height, STEP, 0) for height in (1, 2)], [(), None])
        self.same([coins_for(height, STEP, 2) for height in (1, 2, 3, 4)], [(0,), (1, 0), (1, 1), None])
        self.same([coins_for(height, ("step", 1), 9) for height in (1, 2)], [(), None])
        self.same([coins_for(height, ("step", 2), 9) for height in (1, 2, 3)], [(0,), (1,), None])
        self.same([coins_for(height, ("step", 9), 1) for height in (1, 2, 3)], [(0,), (1,), None])
        self.same([coins_for(height, ("step", 64), 64) for height in (64, 65)], [(1,) * 63, None])
        self.same(coins_for(height=2, rule=["step"], top=1), (1,))
        self.same(coins_for(LONG, ("cap", 64), 0), None)
        self.keeps(coins_for, 2, ["free"], 0)

    def test_takes_toss_back(self):
        for rule in RULES:
            for tall in range(5):
                for height in range(1, 8):
                    coins = coins_for(height, rule, tall)
                    with self.subTest(rule, top=tall, height=height):
                        if height > limit(rule, tall):
                            self.same(coins, None)
                        else:
                            self.same(toss(coins, 0, rule, tall), (height, len(coins)))
                            self.same(toss((1, 0) + coins + (1,), 2, rule, tall), (height, len(coins) + 2))

    def test_errors(self):
        for thing in no_integers() + [0, -1]:
            with self.subTest(thing):
                self.fails(NoNumber, {"value": thing}, coins_for, thing, FREE, 0)
                if thing != 0 or isinstance(thing, bool):
                    self.fails(NoNumber, {"value": thing}, coins_for, 1, FREE, thing)
                    self.fails(NoNumber, {"value": thing}, coins_for, 9, ("cap", 2), thing)

    def test_which_error_comes_first(self):
        self.fails(NoNumber, {"value": 0}, coins_for, 0, None, -2)
        self.fails(NoRule, {}, coins_for, 1, None, -2)
        self.fails(NoNumber, {"value": -2}, coins_for, 1, FREE, -2)


class CoinsOfTests(Case):
    def test_each_rule(self):
        self.same(coins_of((3, 1, 2), FREE), (1, 1, 0, 0, 1, 0))
        self.same(coins_of([3, 1, 2], ("cap", 3)), (1, 1, 0, 1, 0))
        self.same(coins_of([3, 1, 2], ("cap", 2)), None)
        self.same(coins_of((1, 1), ("cap", 1)), ())
        self.same(coins_of((1, 2), ("cap", 1)), None)
        self.same(coins_of((1, 1, 2, 1, 3), STEP), (0, 1, 0, 1, 1))
        self.same(coins_of((1, 3), STEP), None)
        self.same(coins_of((2,), STEP), None)
        self.same(coins_of((1,), STEP), ())
        self.same(coins_of((1, 1, 1), ("step", 1)), ())
        self.same(coins_of((1, 2, 2), ("step", 2)), (1, 1))
        self.same(coins_of((1, 2, 3), ("step", 2)), None)
        self.same(coins_of((1, 2, 1, 3), STEP), (1, 0, 1, 1))
        self.same(coins_of((64, 1), ("cap", 64)), (1,) * 63 + (0,))
        self.same(coins_of(heights=[2], rule=["free"]), (1, 0))

    def test_no_heights_at_all(self):
        for rule in RULES:
            self.same(coins_of((), rule), ())
            self.same(coins_of([], list(rule)), ())

    def test_unchanged(self):
        self.keeps(coins_of, [3, 1, 2], ["free"])

    def test_errors(self):
        for thing in no_rows():
            with self.subTest(thing):
                self.fails(NoHeights, {"index": -1}, coins_of, thing, FREE)
        for thing in no_integers() + [0, -1]:
            with self.subTest(thing):
                self.fails(NoHeights, {"index": 0}, coins_of, (thing,), FREE)
                self.fails(NoHeights, {"index": 2}, coins_of, [1, 2, thing, thing], FREE)
                self.fails(NoHeights, {"index": 2}, coins_of, (2, 1, thing), ("cap", 1))
        self.fails(NoHeights, {"index": 0}, coins_of, (0,), None)
        self.fails(NoRule, {}, coins_of, (1,), None)
        self.fails(NoRule, {}, coins_of, (), None)


class HeightsOfTests(Case):
    def test_each_rule(self):
        self.same(heights_of((1, 1, 0, 0, 1, 0), FREE), [3, 1, 2])
        self.same(heights_of([1, 1, 0, 1, 0], ("cap", 3)), [3, 1, 2])
        self.same(heights_of((1, 1, 1), ("cap", 2)), [2, 2, 2])
        self.same(heights_of([1] * 63 + [0], ("cap", 64)), [64, 1])
        self.same(heights_of((0,), STEP), [1, 1])
        self.same(heights_of((1,), STEP), [1, 2])
        self.same(heights_of((0, 1, 0, 1, 1), STEP), [1, 1, 2, 1, 3])
        self.same(heights_of((1, 1, 1), ("step", 2)), [1, 2, 2, 2])
        self.same(heights_of([1, 1, 1] + [1] * 2, ("step", 3)), [1, 2, 3, 3])
        self.same(heights_of(coins=[1, 0], rule=["free"]), [2])

    def test_no_coins_at_all(self):
        for rule in RULES:
            self.same(heights_of((), rule), [])
            self.same(heights_of([], list(rule)), [])

    def test_unchanged(self):
        self.keeps(heights_of, [1, 1, 0, 0], ["free"])
        self.keeps(heights_of, [], ["free"])

    def test_short(self):
        self.fails(Short, {"index": 1}, heights_of, (1,), FREE)
        self.fails(Short, {"index": 3}, heights_of, (1, 0, 1), FREE)
        self.fails(Short, {"index": 2}, heights_of, [0, 1], ("cap", 3))
        self.fails(Short, {"index": 2}, heights_of, [1, 1], STEP)

    def test_spare(self):
        for rule in (("cap", 1), ("step", 1), ["cap", 1], ["step", 1]):
            for coins in ((0,), (1,), [1, 1], [0] * 1000):
                self.fails(Spare, {"index": 0}, heights_of, coins, rule)

    def test_which_error_comes_first(self):
        self.fails(NoCoins, {"index": 1}, heights_of, (1, 2), None)
        self.fails(NoRule, {}, heights_of, (1, 1), None)
        self.fails(NoRule, {}, heights_of, (), None)
        self.fails(NoCoins, {"index": 0}, heights_of, (2, 1), ("cap", 1))

    def test_many_coins(self):
        self.same(heights_of([0] * 1000, FREE), [1] * 1000)
        self.same(heights_of([1] * 999 + [0], FREE), [1000])


class OneRowTests(Case):
    """Section 3, number 1, over all small rows."""

    def test_each_row_of_coins_gives_heights_or_does_not_fit(self):
        for rule in RULES:
            for many in range(8):
                for coins in product((0, 1), repeat=many):
                    with self.subTest(rule, coins=coins):
                        self.one_row(coins, rule)

    def one_row(self, coins, rule):
        wanted = played(coins, rule)
        if wanted is not None:
            self.same(heights_of(coins, rule), wanted)
            self.same(coins_of(wanted, rule), coins)
        elif rule[-1] == 1:
            self.fails(Spare, {"index": 0}, heights_of, coins, rule)
        else:
            self.fails(Short, {"index": len(coins)}, heights_of, coins, rule)

    def test_heights_come_of_one_row_of_coins_or_of_none(self):
        for rule in RULES:
            rows = {}
            for many in range(13):
                for coins in product((0, 1), repeat=many):
                    found = played(coins, rule)
                    if found is not None:
                        rows.setdefault(tuple(found), []).append(coins)
            for many in range(4):
                for tall in product((1, 2, 3, 4), repeat=many):
                    with self.subTest(rule, heights=tall):
                        self.one_order(tall, rule, rows)

    def one_order(self, tall, rule, rows):
        coins = coins_of(tall, rule)
        allowed = all(height <= limit(rule, max(tall[:at], default=0)) for at, height in enumerate(tall))
        self.same(coins is not None, allowed)
        if coins:
            self.same(rows[tall], [coins])
        elif coins is None:
            self.assertNotIn(tall, rows)
        else:
            # No coin is tossed, and heights without coins are not told back.
            self.same(heights_of(coins, rule), [])


if __name__ == "__main__":
    unittest.main()
