import unittest
from fractions import Fraction
from itertools import permutations, product
from random import Random

from told import (
    LONG, Case, nested, no_integers, no_rows, of_chance, of_history, of_key, of_manner, of_new_keys, of_number,
    of_rule, of_towers,
)
from tosslanes.coins import most
from tosslanes.errors import (
    NoChance, NoHistory, NoKey, NoKeys, NoManner, NoNumber, NoPlan, NoRule, NoTowers,
)
from tosslanes.plans import (
    alike, alone, blind_looker, chances_of, is_blind, is_plan, looker, mean_after, parting,
)
from tosslanes.searches import MANNERS, cost
from tosslanes.towers import height_of, top

RULES = [("cap", 1), ("cap", 2), ("cap", 3), ("step",), ("step", 1), ("step", 2), ("step", 3)]
CHANCES = [(1, 2), (2, 6), (4, 5)]
CHOICE = ("if", 4, 2, (("remove", 4),), ())
PLANS = [
    [], [("seek", 1)], [("remove", 1)], [("insert", 1)], [("insert", 1), ("insert", 1)], [("tallest", "remove")],
    [("lowest", "again")], [("insert", 4), CHOICE], [["insert", 4], ["if", 4, 2, [["remove", 4]], []]],
    [("insert", 1), ("insert", 2), ("insert", 3), ("tallest", "remove")],
    [("insert", 1), ("insert", 2), ("insert", 3), ("lowest", "remove"), ("tallest", "again")],
    [("insert", 2), ("insert", 1), ("lowest", "again"), ("tallest", "again"), ("remove", 2), ("insert", 3)],
    [("insert", 1), ("if", 1, 2, (("insert", 2), ("tallest", "again")), (("insert", 3), ("insert", 2)))],
    [("insert", 1), ("insert", 2), ("if", 2, 1, (("if", 1, 2, (("remove", 2),), (("seek", 1),)),), CHOICE[3])],
    [("if", 1, 1, (("insert", 2),), (("insert", 3), ("if", 3, 2, (("tallest", "remove"),), (("remove", 1),))))],
    [("insert", 1), ("remove", 1), ("insert", 1), ("tallest", "again"), ("insert", 2), ("if", 7, 1, (), CHOICE[3])],
]


def coins(chance, limit):
    """The chances of the heights up to a limit, coin by coin."""
    p = Fraction(*chance)
    going = Fraction(1)
    for height in range(1, limit):
        yield height, going * (1 - p)
        going *= p
    yield limit, going


def put(towers, key, height):
    return tuple(sorted(towers + ((key, height),)))


def out(towers, key):
    return tuple([pair for pair in towers if pair[0] != key])


def behind_act(towers, act, chance, rule):
    """All towers behind an act, with their chances, one by one."""
    word = act[0]
    keys = [key for key, _ in towers]
    if word == "if":
        plan = act[3] if height_of(towers, act[1]) >= act[2] else act[4]
        return played(plan, chance, rule, {towers: Fraction(1)})
    if word == "insert" and act[1] not in keys:
        limit = most(rule, top(towers))
        return {put(towers, act[1], height): part for height, part in coins(chance, limit)}
    if word == "remove":
        return {out(towers, act[1]): Fraction(1)}
    if word in ("tallest", "lowest") and towers:
        ordered = sorted(towers, key=lambda pair: (-pair[1] if word == "tallest" else pair[1], pair[0]))
        rest = out(towers, ordered[0][0])
        if act[1] == "remove":
            return {rest: Fraction(1)}
        return behind_act(rest, ("insert", ordered[0][0]), chance, rule)
    return {towers: Fraction(1)}


def played(plan, chance, rule, begin=None):
    """The chances of a plan, going through all coins, act by act."""
    there = begin or {(): Fraction(1)}
    for act in plan:
        behind = {}
        for towers, part in there.items():
            for other, one in behind_act(towers, act, chance, rule).items():
                behind[other] = behind.get(other, 0) + part * one
        there = behind
    return there


def pair(part):
    part = Fraction(part)
    return part.numerator, part.denominator


def as_told(chances):
    return {towers: pair(chances[towers]) for towers in sorted(chances)}


def mean_of(chances, key, manner):
    return sum(part * cost(towers, key, manner)[2] for towers, part in chances.items())


def deep_plan(depth, last=()):
    plan = last
    for _ in range(depth):
        plan = [("if", 1, 1, (), plan)]
    return plan


NO_ACTS = [
    (), [], (1,), ("insert",), ("insert", 1, 1), ("insert", "1"), ("insert", None), ("insert", True), ("Insert", 1),
    ("seek", False), ("remove", (1,)), ("put", 1), (None, 1), (1, "insert"), (["seek"], 1), (b"seek", 1), ("", 1),
    ("if",), ("if", 1), ("if", 1, 1), ("if", 1, 1, ()), ("if", 1, 1, (), (), ()), ("if", 1, 0, (), ()),
    ("if", 1, -1, (), ()), ("if", 1, True, (), ()), ("if", True, 1, (), ()), ("if", "1", 1, (), ()),
    ("if", 1, "1", (), ()), ("if", None, 1, (), ()), ("if", 1, None, (), ()), ("IF", 1, 1, (), ()),
    ("tallest",), ("tallest", 1), ("tallest", "seek"), ("tallest", None), ("tallest", "Again"), ("lowest", ""),
    ("lowest", "remove", "again"), ("lowest", True), ("lowest", ["again"]), ("highest", "again"), ("remove", "again"),
    ("tallest", b"again"), {"insert": 1, "b": 2}, "ab", "if", {1, 2}, range(2), nested(3), nested(3000),
    # An act whose other parts are wrong is told itself, also if there are no plans in it.
    ("if", 1, 0, None, None), ("if", None, 1, [("insert",)], ()), ("if", 1, 1, 3),
]
# What is no plan, and the place that is told.
NO_PLANS = [([act], (0,)) for act in NO_ACTS] + [([act], (0,)) for act in no_integers()] + [
    ([("insert", 1), act, None], (1,)) for act in NO_ACTS
] + [
    ([("if", 1, 1, 3, 3)], (0, 3)), ([("if", 1, 1, (), None)], (0, 4)), ([("if", 1, 1, {}, ())], (0, 3)),
    ([("if", 1, 1, [1], None)], (0, 3, 0)), ([("if", 1, 1, (), [("seek", 1), 1])], (0, 4, 1)),
    ([("if", 1, 1, [("seek", 1), ("seek",)], [1])], (0, 3, 1)), ([("if", 1, 1, "", "")], (0, 3)),
    ([("seek", 1), ("seek", 2), ("if", 1, 1, None, ())], (2, 3)),
    ([("seek", 1), ("seek", 2), ("if", 1, 1, [None], ()), None], (2, 3, 0)),
    ([("seek", 1), ("if", 1, 1, [("if", 1, 1, (), [("if", 1, 0, (), ())])], ()), None], (1, 3, 0, 4, 0)),
    ([("seek", 1), ("if", 1, 1, [("if", 1, 1, (), [("if", 1, 2, (), 0)])], 0), None], (1, 3, 0, 4, 0, 4)),
    ([("if", 1, 1, [("if", 1, 1, (), ())], 5)], (0, 4)), (deep_plan(9, 7), (0, 4) * 9),
    (deep_plan(200, [("seek", 1), 1]), (0, 4) * 200 + (1,)), (deep_plan(200, None), (0, 4) * 200),
    (deep_plan(3000, {}), (0, 4) * 3000), ([nested(3000)], (0,)), (nested(3000), (0,)),
]


def of_plan():
    return [(thing, {"place": place}) for thing, place in NO_PLANS] + [(thing, {"place": ()}) for thing in no_rows()]


def of_finite():
    return of_rule(("free",))


class PlanTests(Case):
    def fails_at(self, function, thing, place, *values):
        with self.assertRaises(NoPlan) as caught:
            function(thing, *values)
        self.same(caught.exception.place, place)

    def test_is_plan(self):
        for plan in PLANS:
            self.same(is_plan(plan), True)
            self.same(is_plan(tuple(plan)), True)
        for thing, _ in NO_PLANS:
            self.same(is_plan(thing), False)
        for thing in no_rows():
            self.same(is_plan(thing), False)
        self.same(is_plan(thing=[]), True)

    def test_sizes(self):
        for depth in (1, 10, 200, 3000):
            self.same(is_plan(deep_plan(depth)), True)
            self.same(is_blind(deep_plan(depth)), False)
            self.same(is_plan(deep_plan(depth, [("tallest", "away")])), False)
        self.same(is_plan([("insert", LONG)] * 1000), True)
        self.same(is_plan([("if", -LONG, LONG, [("seek", 1)] * 100, ())] * 100), True)

    def test_is_blind(self):
        for plan in PLANS:
            self.same(is_blind(plan), all(act[0] in ("insert", "remove", "seek") for act in plan))
        self.same(is_blind(plan=[["insert", 1], ("remove", 2), ("seek", 3)]), True)
        self.same(is_blind([("insert", 1), ("tallest", "again")]), False)
        self.same(is_blind([("if", 1, 1, (), ())]), False)

    def test_places(self):
        for thing, told in of_plan():
            self.fails_at(is_blind, thing, told["place"])
        for thing, place in NO_PLANS[-12:]:
            for function, values in (
                (chances_of, (None, None)), (mean_after, (None, None, None, None)), (alike, (None, None, None)),
            ):
                self.fails_at(function, thing, place, *values)
            with self.assertRaises(NoPlan) as caught:
                alike([("insert", 1)], thing, None, None)
            self.same(caught.exception.place, place)


class ChancesTests(Case):
    def test_examples(self):
        self.same(chances_of([("insert", 4), CHOICE], (1, 2), ("cap", 3)), {(): (1, 2), ((4, 1),): (1, 2)})
        other = [("insert", 1), ("if", 1, 2, (("tallest", "again"),), ())]
        self.same(alike([("insert", 1)], other, (1, 3), ("cap", 2)), (((1, 1),), (2, 3), (8, 9)))

    def test_all_coins(self):
        for plan in PLANS:
            for chance in CHANCES:
                for rule in RULES:
                    self.same(chances_of(plan, chance, rule), as_told(played(plan, chance, rule)))

    def test_random_plans(self):
        random = Random(15)

        def some_plan(depth):
            plan = []
            for _ in range(random.randrange(4)):
                word = random.choice(("insert", "insert", "insert", "remove", "tallest", "lowest", "if"))
                if word in ("tallest", "lowest"):
                    plan.append((word, random.choice(("remove", "again", "again"))))
                elif word != "if":
                    plan.append((word, random.randrange(4)))
                elif depth > 0:
                    choice = (random.randrange(4), random.randrange(1, 3))
                    plan.append(("if",) + choice + (some_plan(depth - 1), some_plan(depth - 1)))
            return plan

        for _ in range(150):
            plan = [("insert", random.randrange(4)) for _ in range(3)] + some_plan(2)
            chance = random.choice(CHANCES)
            rule = random.choice(RULES)
            found = chances_of(plan, chance, rule)
            self.same(found, as_told(played(plan, chance, rule)))
            self.assertEqual(sum(Fraction(*part) for part in found.values()), 1)

    def test_tallest_of_several(self):
        # By cap 1 all are alike: the first one goes.
        plan = [("insert", 5), ("insert", 3), ("insert", 9)]
        for word in ("tallest", "lowest"):
            self.same(chances_of(plan + [(word, "remove")], (1, 2), ("cap", 1)), {((5, 1), (9, 1)): (1, 1)})
            self.same(chances_of([(word, "again"), (word, "remove")], (1, 2), ("step",)), {(): (1, 1)})

    def test_again_by_step(self):
        # The top is that of the towers without the key: a single key gets the height 1.
        plan = [("insert", 1), ("insert", 2), ("remove", 1), ("tallest", "again")]
        self.same(chances_of(plan, (1, 2), ("step",)), {((2, 1),): (1, 1)})

    def test_ten_deep(self):
        plan = [("insert", 5), ("insert", 6)]
        for key in range(10):
            plan = [("insert", 1), ("if", 1, 2, plan, (("tallest", "again"),))]
        self.same(chances_of(plan, (1, 3), ("cap", 2)), as_told(played(plan, (1, 3), ("cap", 2))))

    def test_by_name(self):
        self.same(chances_of(rule=["cap", 2], chance=[1, 4], plan=[["insert", 3]]), alone([3], (1, 4), ("cap", 2)))
        self.same(alone(rule=["cap", 2], chance=[1, 4], keys=[3]), {((3, 1),): (3, 4), ((3, 2),): (1, 4)})
        self.same(mean_after(rule=("cap", 2), chance=(1, 4), manner="plain", key=3, plan=[("insert", 3)]), (9, 4))
        self.same(alike(rule=("step",), chance=(1, 4), other=[], one=[("seek", 3)]), None)
        self.same(parting(rule=("step",), chance=(1, 4), history=[("insert", 3)]), None)


class SameTowersTests(Case):
    """Where several towers come to the same ones, their chances are added."""

    # With these the key 1 is there just if it is high, and the key 2 just if it is low.
    FIRST = [("insert", 1), ("if", 1, 2, (), (("remove", 1),))]
    SECOND = [("insert", 2), ("if", 2, 2, (("remove", 2),), ())]

    def test_one_key_or_none(self):
        for word in ("tallest", "lowest"):
            for first in (self.FIRST, self.SECOND):
                for chance in CHANCES:
                    for rule in (("cap", 2), ("cap", 3)):
                        plan = first + [(word, "remove")]
                        self.same(chances_of(plan, chance, rule), {(): (1, 1)})
                        self.same(alike(plan, [], chance, rule), None)
                        self.same(mean_after(plan, 1, "plain", chance, rule), (0, 1))
                        behind = chances_of(plan + [("insert", 3)], chance, rule)
                        self.same(behind, alone([3], chance, rule))
                        self.same(chances_of(plan + [(word, "again")], chance, rule), {(): (1, 1)})

    def test_none_is_told_first_or_last(self):
        # The towers without keys come of the plan that is done, or of the other one.
        for acts in ((("remove", 1),), (("tallest", "remove"),), (("lowest", "remove"), ("lowest", "remove"))):
            for plans in ((acts, ()), ((), acts)):
                for word in ("tallest", "lowest"):
                    plan = [("insert", 1), ("if", 1, 2) + plans, (word, "remove")]
                    self.same(chances_of(plan, (1, 3), ("cap", 3)), {(): (1, 1)})

    def test_several_keys_or_none(self):
        for word in ("tallest", "lowest"):
            for then in ("remove", "again"):
                for rule in RULES:
                    for many in (1, 2, 3):
                        plan = self.FIRST + self.SECOND + [(word, then)] * many
                        found = chances_of(plan, (1, 3), rule)
                        self.same(found, as_told(played(plan, (1, 3), rule)))
                        self.assertEqual(sum(Fraction(*part) for part in found.values()), 1)

    def test_all_short_plans(self):
        acts = [
            ("insert", 1), ("insert", 2), ("remove", 1), ("tallest", "remove"), ("tallest", "again"),
            ("lowest", "remove"), ("lowest", "again"), self.FIRST[1], self.SECOND[1],
            ("if", 2, 1, (("tallest", "remove"),), (("insert", 2),)), ("if", 1, 1, (("insert", 2),), ()),
        ]
        for rule in (("cap", 2), ("step", 2)):
            ways = [([], {(): Fraction(1)})]
            for _ in range(3):
                ways = [(plan + [act], played([act], (1, 3), rule, there)) for plan, there in ways for act in acts]
                for plan, there in ways:
                    self.same(chances_of(plan, (1, 3), rule), as_told(there))

    def test_four_acts(self):
        random = Random(19)
        acts = [("if", key, height, one, other) for key in (1, 2) for height in (1, 2) for one in PLANS[2:7]
                for other in ((), (("remove", key),), (("insert", 3), ("lowest", "remove")))]
        acts += [(word, then) for word in ("tallest", "lowest") for then in ("remove", "again")] * 15
        acts += [("insert", key) for key in (1, 2)] * 15 + [("remove", key) for key in (1, 2)] * 5
        for _ in range(1500):
            plan = [("insert", 1)] + [random.choice(acts) for _ in range(4)]
            rule = random.choice((("cap", 2), ("cap", 3), ("step", 2), ("step",)))
            self.same(chances_of(plan, (2, 3), rule), as_told(played(plan, (2, 3), rule)))


class TooManyTests(Case):
    def test_just_as_many(self):
        def high(key, more):
            return ("if", key, 2, [("insert", 100 + at) for at in range(more)])

        def plan(last):
            acts = last
            for key, more in ((3, 7), (2, 8), (1, 9), (0, 12)):
                acts = [("insert", key), high(key, more) + (acts,)]
            return acts

        # 4096 + 512 + 256 + 128 and 8 more, or 9.
        just = plan([("insert", 4), ("insert", 5), ("insert", 6)])
        over = plan([("insert", 4), high(4, 3) + ([],)])
        self.assertEqual(len(chances_of(just, (1, 2), ("cap", 2))), 5000)
        told = {"value": 5000}
        self.fails(NoNumber, told, chances_of, over, (1, 2), ("cap", 2))
        # Also if fewer are left behind the last act.
        self.fails(NoNumber, told, chances_of, over + [("remove", 0)], (1, 2), ("cap", 2))
        self.fails(NoNumber, told, mean_after, over, 1, "plain", (1, 2), ("cap", 2))
        self.fails(NoNumber, told, alike, over, [], (1, 2), ("cap", 2))
        self.fails(NoNumber, told, alike, [], over, (1, 2), ("cap", 2))
        self.assertEqual(alike(just, just, (1, 2), ("cap", 2)), None)

    def test_only_those_that_are_led_through(self):
        thirteen = [("insert", key) for key in range(13)]
        plan = [("insert", 50), ("if", 50, 3, thirteen, ())]
        self.assertEqual(len(chances_of(plan, (1, 2), ("cap", 2))), 2)
        self.fails(NoNumber, {"value": 5000}, chances_of, plan, (1, 2), ("cap", 3))
        # In a part there are as many as are led through it.
        plan = [("insert", key) for key in range(11)] + [("if", 0, 2, [("insert", 11), ("insert", 12)], ())]
        self.fails(NoNumber, {"value": 5000}, chances_of, plan, (1, 2), ("cap", 2))
        inside = [("insert", 11), ("insert", 12), ("remove", 12)]
        plan = [("insert", key) for key in range(11)] + [("if", 0, 2, inside, ())]
        self.assertEqual(len(chances_of(plan, (1, 2), ("cap", 2))), 2048 + 1024)

    def test_keys_alone(self):
        for keys, rule, many in (
            (12, ("cap", 2), 4096), (2, ("cap", 64), 4096), (8, ("step",), 4140), (13, ("step", 2), 4096),
            (1000, ("cap", 1), 1), (1000, ("step", 1), 1),
        ):
            self.assertEqual(len(alone(list(range(keys)), (1, 2), rule)), many)
        told = {"value": 5000}
        for keys, rule in ((13, ("cap", 2)), (3, ("cap", 64)), (9, ("step",)), (14, ("step", 2)), (60, ("cap", 2))):
            self.fails(NoNumber, told, alone, list(range(keys)), (1, 2), rule)
            history = [("insert", key) for key in range(keys)]
            self.fails(NoNumber, told, chances_of, history, (1, 2), rule)
            self.fails(NoNumber, told, parting, history, (1, 2), rule)
            self.fails(NoNumber, told, parting, history + [("remove", 1)], (1, 2), rule)

    def test_again_with_many_towers(self):
        plan = [("insert", key) for key in range(12)] + [("tallest", "again"), ("lowest", "again")] * 24
        found = chances_of(plan, (1, 2), ("cap", 2))
        self.assertEqual(len(found), 4096)
        self.assertEqual(sum(Fraction(*part) for part in found.values()), 1)


class AloneTests(Case):
    def test_in_any_order(self):
        for chance in CHANCES:
            for rule in RULES:
                for keys in permutations((7, 3, 12)):
                    found = alone(keys, chance, rule)
                    self.same(found, as_told(played([("insert", key) for key in keys], chance, rule)))
                    if rule[0] == "cap":
                        self.same(found, alone((3, 7, 12), chance, rule))
        self.same(alone((), (1, 2), ("step",)), {(): (1, 1)})
        self.same(alone((1, 2), (1, 2), ("step",)) == alone((2, 1), (1, 2), ("step",)), False)


class MeanTests(Case):
    def test_all_coins(self):
        for plan in PLANS:
            for rule in RULES:
                chances = played(plan, (1, 3), rule)
                for manner in MANNERS:
                    for key in (0, 1, 2, 4):
                        self.same(mean_after(plan, key, manner, (1, 3), rule), pair(mean_of(chances, key, manner)))


class AlikeTests(Case):
    def test_all_pairs(self):
        for rule in (("cap", 2), ("step", 2), ("step",)):
            for one, other in product(PLANS, repeat=2):
                first, second = played(one, (1, 3), rule), played(other, (1, 3), rule)
                unlike = [
                    (towers, pair(first.get(towers, 0)), pair(second.get(towers, 0)))
                    for towers in sorted(set(first) | set(second)) if first.get(towers, 0) != second.get(towers, 0)
                ]
                self.same(alike(one, other, (1, 3), rule), unlike[0] if unlike else None)

    def test_the_same_by_two_plans(self):
        one = [("insert", 1), ("insert", 2), ("remove", 1)]
        self.same(alike(one, [("insert", 2)], (1, 3), ("cap", 3)), None)
        self.same(alike(one, [("insert", 2)], (1, 3), ("step",)), (((2, 1),), (2, 3), (1, 1)))


class PartingTests(Case):
    def naive(self, history, chance, rule):
        order = []
        for many in range(len(history) + 1):
            if many > 0:
                word, key = history[many - 1]
                if word == "insert" and key not in order:
                    order.append(key)
                if word == "remove" and key in order:
                    order.remove(key)
            alone_chances = played([("insert", key) for key in order], chance, rule)
            if played(history[:many], chance, rule) != alone_chances:
                return many
        return None

    def test_facts(self):
        self.same(parting([("insert", 1), ("insert", 2), ("remove", 1)], (1, 2), ("step",)), 3)
        self.same(parting([("insert", key) for key in (3, 1, 2, 5, 4)], (1, 2), ("step",)), None)
        self.same(parting([], (1, 2), ("step",)), None)

    def test_against_its_words(self):
        random = Random(16)
        for _ in range(250):
            history = [
                (random.choice(("insert", "insert", "remove", "seek")), random.randrange(4)) for _ in range(8)
            ]
            for rule in RULES:
                chance = random.choice(CHANCES)
                self.same(parting(history, chance, rule), self.naive(history, chance, rule))

    def test_all_short_histories(self):
        deeds = [(word, key) for word in ("insert", "remove") for key in (1, 2, 3)]
        for history in product(deeds, repeat=4):
            for rule in (("cap", 2), ("step",), ("step", 2)):
                self.same(parting(history, (1, 3), rule), self.naive(list(history), (1, 3), rule))

    def test_long(self):
        history = [("insert", key) for key in range(12)] + [("remove", 11), ("insert", 11)] * 494
        for rule in (("cap", 2), ("step", 2)):
            self.same(parting(history, (1, 2), rule), None)
        self.same(parting(history + [("remove", 0), ("seek", 1)], (1, 2), ("step", 2)), 1001)


class LookerTests(Case):
    def value(self, towers, keys, many, key, manner, chance, rule):
        """The greatest mean, and all deeds that reach it."""
        stop = Fraction(cost(towers, key, manner)[2])
        if many == 0:
            return stop, [None]
        found = [(stop, None)]
        there = [other for other, _ in towers]
        for word in ("insert", "remove"):
            for own in keys:
                if (own in there) == (word == "remove"):
                    mean = Fraction(0)
                    for other, part in behind_act(towers, (word, own), chance, rule).items():
                        mean += part * self.value(other, keys, many - 1, key, manner, chance, rule)[0]
                    found.append((mean, (word, own)))
        greatest = max(mean for mean, _ in found)
        return greatest, [deed for mean, deed in found if mean == greatest]

    def test_all_ways_of_few_deeds(self):
        random = Random(17)
        for many in (0, 1, 2, 3):
            for _ in range(20):
                keys = random.sample((1, 2, 3), random.randrange(1, 4))
                towers = tuple([(key, random.randrange(1, 4)) for key in (1, 3, 5) if random.randrange(2)])
                if len(set(keys) | {key for key, _ in towers}) > 4:
                    continue
                rule = random.choice((("cap", 1), ("cap", 2), ("cap", 3), ("step", 2), ("step", 3)))
                values = (towers, keys, many, random.randrange(7), random.choice(MANNERS), random.choice(CHANCES), rule)
                greatest, deeds = self.value(*values)
                self.same(looker(*values), (pair(greatest), deeds[0]))

    def test_small(self):
        self.same(looker((), (), 8, 1, "plain", (1, 2), ("cap", 3)), ((0, 1), None))
        self.same(looker((), [1], 0, 1, "plain", (1, 2), ("cap", 3)), ((0, 1), None))
        self.same(looker((), [1], 1, 1, "plain", (1, 2), ("cap", 2)), ((5, 2), ("insert", 1)))
        # Without a reason to do something it stops: behind all keys nothing is compared.
        self.same(looker(((3, 1),), [5], 3, 1, "plain", (1, 2), ("cap", 1)), ((2, 1), None))
        # Of several best deeds the first one, insertions ahead of removals.
        self.same(looker((), [2, 1], 1, 0, "plain", (1, 2), ("cap", 1)), ((2, 1), ("insert", 2)))
        self.same(looker((), [1, 2], 1, 0, "plain", (1, 2), ("cap", 1)), ((2, 1), ("insert", 1)))

    def test_greatest(self):
        towers = ((1, 3), (2, 1))
        for rule in (("cap", 3), ("step", 3)):
            for manner in MANNERS:
                value, deed = looker(towers, (3, 1, 2, 4), 8, 5, manner, (7, 19), rule)
                self.assertIn(deed[0], ("insert", "remove"))
                values = [Fraction(*looker(towers, (3, 1, 2, 4), many, 5, manner, (7, 19), rule)[0])
                          for many in range(9)]
                self.assertEqual(values, sorted(values))
                self.assertEqual(values[-1], Fraction(*value))

    def test_by_name(self):
        found = looker(
            rule=["cap", 2], chance=[1, 2], manner="plain", key=1, many=1, keys=[1], towers=[],
        )
        self.same(found, ((5, 2), ("insert", 1)))
        found = blind_looker(cap=2, chance=[1, 2], manner="plain", key=1, many=1, keys=[1], towers=[])
        self.same(found, ((5, 2), [("insert", 1)]))


class BlindLookerTests(Case):
    def test_all_histories_of_few_deeds(self):
        random = Random(18)
        for _ in range(40):
            keys = random.sample((1, 2, 3), random.randrange(1, 4))
            towers = tuple([(key, random.randrange(1, 4)) for key in (1, 3) if random.randrange(2)])
            many = random.randrange(4)
            key, manner = random.randrange(5), random.choice(MANNERS)
            chance, cap = random.choice(CHANCES), random.randrange(1, 4)
            deeds = [(word, own) for word in ("insert", "remove") for own in keys]
            means = {}
            for length in range(many + 1):
                for history in product(deeds, repeat=length):
                    chances = played(history, chance, ("cap", cap), {towers: Fraction(1)})
                    means[history] = mean_of(chances, key, manner)
            greatest = max(means.values())
            value, history = blind_looker(towers, keys, many, key, manner, chance, cap)
            self.same(value, pair(greatest))
            self.assertEqual(means[tuple(history)], greatest)
            self.assertEqual(len(history), min(len(one) for one in means if means[one] == greatest))
            # A looker is never worse, and with one deed the same.
            other = Fraction(*looker(towers, keys, many, key, manner, chance, ("cap", cap))[0])
            self.assertGreaterEqual(other, greatest)
            if many <= 1:
                self.assertEqual(other, greatest)

    def test_greatest(self):
        towers = ((1, 3), (2, 1))
        for manner in MANNERS:
            values = [Fraction(*blind_looker(towers, (3, 1, 2, 4), many, 5, manner, (7, 19), 3)[0])
                      for many in range(9)]
            self.assertEqual(values, sorted(values))
            history = blind_looker(towers, (3, 1, 2, 4), 8, 5, manner, (7, 19), 3)[1]
            chances = played(history, (7, 19), ("cap", 3), {towers: Fraction(1)})
            self.assertEqual(mean_of(chances, 5, manner), values[-1])

    def test_nothing_to_do(self):
        self.same(blind_looker((), (), 8, 1, "plain", (1, 2), 3), ((0, 1), []))
        self.same(blind_looker(((1, 2),), (1,), 0, 1, "plain", (1, 2), 3), ((3, 1), []))


class WrongTests(Case):
    def test_wrong_plans(self):
        # The place is a tuple of its own, told by value: see PlanTests.
        lots = [(1, NoChance, of_chance()), (2, NoRule, of_finite())]
        self.refuses(chances_of, ([("insert", 1)], (1, 2), ("cap", 2)), lots)
        self.refuses(alone, ([2, 1], (1, 2), ("cap", 2)), [(0, NoKeys, of_new_keys())] + lots)
        self.refuses(mean_after, ([("insert", 1)], 1, "plain", (1, 2), ("step",)), [
            (1, NoKey, of_key()), (2, NoManner, of_manner()), (3, NoChance, of_chance()), (4, NoRule, of_finite()),
        ])
        self.refuses(alike, ([("insert", 1)], [], (1, 2), ("step",)), [
            (2, NoChance, of_chance()), (3, NoRule, of_finite()),
        ])
        self.refuses(parting, ([("insert", 1)], (1, 2), ("step",)), [(0, NoHistory, of_history())] + lots)

    def test_too_many_come_last(self):
        keys = list(range(13))
        history = [("insert", key) for key in keys]
        for chance, rule, error in (((1, 1), None, NoChance), ((1, 2), ("free",), NoRule), ((1, 2), None, NoRule)):
            self.fails(error, {}, chances_of, history, chance, rule)
            self.fails(error, {}, alone, keys, chance, rule)
            self.fails(error, {}, alike, history, history, chance, rule)
            self.fails(error, {}, parting, history, chance, rule)
            self.fails(error, {}, mean_after, history, 1, "plain", chance, rule)

    def test_wrong_lookers(self):
        checks = [
            (0, NoTowers, of_towers()), (1, NoKeys, of_new_keys()), (2, NoNumber, of_number(-1, 9, LONG)),
            (3, NoKey, of_key()), (4, NoManner, of_manner()), (5, NoChance, of_chance()),
        ]
        right = (((1, 1),), (1, 2), 1, 1, "plain", (1, 2))
        self.refuses(looker, right + (("cap", 2),), checks + [(6, NoRule, of_finite())])
        self.refuses(blind_looker, right + (2,), checks + [(6, NoNumber, of_number(0, 4, -1))])

    def test_kept(self):
        plan = [["insert", 1], ["if", 1, 2, [["tallest", "again"]], [["insert", 2]]]]
        self.keeps(is_plan, plan)
        self.keeps(is_blind, plan)
        self.keeps(chances_of, plan, [1, 2], ["cap", 2])
        self.keeps(alone, [3, 1], [1, 2], ["step"])
        self.keeps(mean_after, plan, 1, "plain", [1, 2], ["cap", 2])
        self.keeps(alike, plan, [], [1, 2], ["cap", 2])
        self.keeps(parting, [["insert", 1], ["insert", 2], ["remove", 1]], [1, 2], ["step"])
        self.keeps(looker, [[1, 1]], [1, 2], 2, 1, "plain", [1, 2], ["cap", 2])
        self.keeps(blind_looker, [[1, 1]], [1, 2], 2, 1, "plain", [1, 2], 2)


if __name__ == "__main__":
    unittest.main()
