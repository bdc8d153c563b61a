import unittest
from itertools import product
from random import Random

from told import LONG, Case, nested, no_rows, odd_things, of_key, of_number, of_rows, of_towers
from tosslanes.deeds import inserted, removed
from tosslanes.errors import NoAct, NoKey, NoManner, NoNumber, NoOrder, NoTowers, NoTurns
from tosslanes.meanwhile import answer, bad_turns, behind_all, memory_after, outcomes, writes
from tosslanes.towers import lane, links, next_key, top

ORDERS = ("up", "down", "late")
MANNERS = ("plain", "early")
SOME = ((3, 1), (7, 3), (12, 2), (20, 1))


def by_table(towers, act, order):
    """The writes, by the table of section 18."""
    key = act[1]
    height = act[2] if act[0] == "insert" else dict(towers)[key]
    lanes = range(1, height + 1)

    def ahead(level):
        return max([other for other in lane(towers, level) if other < key], default=None)

    own = [((key, level), next_key(towers, key, level)) for level in lanes]
    if act[0] == "insert":
        told = [((ahead(level), level), key) for level in lanes]
        return {"up": own + told, "down": own + told[::-1], "late": told + own}[order]
    told = [((ahead(level), level), next_key(towers, key, level)) for level in lanes]
    gone = [((key, level), None) for level in lanes]
    return {"up": told, "down": told[::-1], "late": told[::-1] + gone}[order]


def first_memory(towers, act):
    height = act[2] if act[0] == "insert" else dict(towers)[act[1]]
    memory = {(None, level): None for level in range(1, max(top(towers), height) + 1)}
    memory.update({(key, level): other for key, level, other in links(towers)})
    return memory


class Run:
    """A writer and a reader, step by step."""

    def __init__(self, towers, act, order, key, manner):
        self.told = by_table(towers, act, order)
        self.memory = first_memory(towers, act)
        self.act, self.key, self.manner = act, key, manner
        self.at, self.level = None, max(level for other, level in self.memory if other is None)
        self.keys = [other for other, _ in towers]
        self.done, self.answer, self.rights = 0, None, None

    def is_there(self):
        """Whether the key is there now."""
        if self.key != self.act[1]:
            return self.key in self.keys
        written = [level for (other, level), _ in self.told[:self.done] if other != self.key]
        return (1 in written) == (self.act[0] == "insert")

    def turn(self, turn):
        """Do a turn; return whether it did something."""
        if turn == 0:
            if self.done == len(self.told):
                return False
            place, other = self.told[self.done]
            self.memory[place] = other
            self.done += 1
            if self.rights is not None and self.answer is None:
                self.rights.append(self.is_there())
            return True
        if self.answer is not None:
            return False
        if self.rights is None:
            self.rights = [self.is_there()]
        other = self.memory.get((self.at, self.level))
        if other is not None and other < self.key:
            self.at = other
        elif self.manner == "early" and other == self.key:
            self.answer = True
        elif self.level == 1:
            self.answer = other == self.key if self.manner == "plain" else False
        else:
            self.level -= 1
        return True

    def outcome(self):
        return self.answer, self.answer in self.rights


def run_of(values, turns):
    run = Run(*values)
    did = [run.turn(turn) for turn in turns]
    return run, did


def all_rows(values):
    """All rows of turns in which each turn does something, and which end with the reader's last step."""
    waiting = [()]
    while waiting:
        turns = waiting.pop()
        for turn in (0, 1):
            run, did = run_of(values, turns + (turn,))
            if did[-1]:
                if run.answer is None:
                    waiting.append(turns + (turn,))
                elif turn == 1:
                    yield turns + (turn,), run.outcome()


def small_cases():
    for towers in ((), ((5, 1),), ((3, 1), (9, 2)), ((3, 2), (9, 1)), ((1, 2), (5, 2)), ((1, 3), (5, 2), (9, 1))):
        acts = [("insert", key, height) for key in (1, 5, 6) for height in (1, 2)]
        acts += [("remove", key) for key, _ in towers]
        for act in acts:
            if act[0] == "remove" or act[1] not in dict(towers):
                for key in sorted({0, act[1], act[1] + 1, 3, 9}):
                    for order, manner in product(ORDERS, MANNERS):
                        yield towers, act, order, key, manner


def all_acts(towers, keys, greatest):
    for key in keys:
        if key in dict(towers):
            yield "remove", key
        else:
            for height in range(1, greatest + 1):
                yield "insert", key, height


class WriteTests(Case):
    def test_examples(self):
        wanted = [((5, 1), None), ((5, 2), None), ((3, 1), 5), ((None, 2), 5)]
        self.same(writes(((3, 1),), ("insert", 5, 2), "up"), wanted)
        one, two = [bad_turns(((3, 1),), ("insert", 5, 2), "down", 5, manner) for manner in ("early", "plain")]
        self.same((one, two), ((0, 0, 0, 1), None))
        self.same(bad_turns(((3, 1), (9, 1)), ("insert", 5, 1), "late", 9, "plain"), (0, 1, 1, 1))
        self.same(outcomes((), ("insert", 5, 1), "up", 5, "plain"), {(False, True): 2, (True, True): 1})

    def test_the_table(self):
        for many in range(4):
            for heights in product((1, 2, 3), repeat=many):
                towers = tuple([(10 * at, height) for at, height in enumerate(heights)])
                for act in all_acts(towers, (-5, 0, 5, 10, 15, 20, 25), 4):
                    for order in ORDERS:
                        self.same(writes(towers, act, order), by_table(towers, act, order))

    def test_memories(self):
        for many in range(4):
            for heights in product((1, 2, 3), repeat=many):
                towers = tuple([(10 * at, height) for at, height in enumerate(heights)])
                for act in all_acts(towers, (-5, 0, 5, 10, 25), 4):
                    for order in ORDERS:
                        self.check_memories(towers, act, order)

    def check_memories(self, towers, act, order):
        memory = first_memory(towers, act)
        told = by_table(towers, act, order)
        for many in range(len(told) + 1):
            if many > 0:
                memory[told[many - 1][0]] = told[many - 1][1]
            self.assertEqual(memory_after(towers, act, order, many), memory)
        self.fails(NoNumber, {"value": len(told) + 1}, memory_after, towers, act, order, len(told) + 1)
        # Behind all there are the links of the new towers, and links to the end above their top.
        new = inserted(towers, act[1], act[2]) if act[0] == "insert" else removed(towers, act[1])
        lanes = max(top(towers), top(new))
        wanted = {(None, level): None for level in range(1, lanes + 1)}
        wanted.update({(key, level): other for key, level, other in links(new)})
        self.assertEqual(behind_all(towers, act, order), wanted)

    def test_by_name(self):
        self.same(writes(order="down", act=["remove", 3], towers=[[3, 1]]), [((None, 1), None)])
        self.same(memory_after(many=0, order="up", act=["remove", 3], towers=[[3, 1]]), {(None, 1): 3, (3, 1): None})
        self.same(behind_all(order="up", act=["remove", 3], towers=[[3, 1]]), {(None, 1): None})
        self.same(answer(turns=[], manner="plain", key=3, order="up", act=["remove", 3], towers=[[3, 1]]), (True, True))
        self.same(outcomes(manner="early", key=3, order="up", act=["remove", 3], towers=[[3, 1]]), {
            (False, True): 1, (True, True): 1,
        })
        self.same(bad_turns(manner="plain", key=3, order="up", act=["remove", 3], towers=[[3, 1]]), None)

    def test_an_act_above_the_top(self):
        self.same(writes((), ("insert", 5, 3), "late"), [
            ((None, 1), 5), ((None, 2), 5), ((None, 3), 5), ((5, 1), None), ((5, 2), None), ((5, 3), None),
        ])
        self.same(memory_after((), ("insert", 5, 2), "late", 0), {(None, 1): None, (None, 2): None})
        self.same(memory_after((), ("insert", 5, 2), "late", 1), {(None, 1): 5, (None, 2): None})
        self.assertEqual(len(writes(SOME, ("insert", 5, 64), "up")), 128)


class ReaderTests(Case):
    def test_all_rows_of_turns(self):
        for values in small_cases():
            counts = {}
            bad = []
            for turns, outcome in all_rows(values):
                counts[outcome] = counts.get(outcome, 0) + 1
                if not outcome[1]:
                    bad.append(turns)
                self.same(answer(*values, turns), outcome)
            self.same(outcomes(*values), {outcome: counts[outcome] for outcome in sorted(counts)})
            self.same(bad_turns(*values), min(bad, key=lambda turns: (len(turns), turns), default=None))

    def test_turns_in_any_number(self):
        random = Random(18)
        cases = list(small_cases())
        for _ in range(3000):
            values = random.choice(cases)
            turns = [random.randrange(2) for _ in range(random.randrange(12))]
            run, did = run_of(values, turns)
            while run.answer is None:
                run.turn(1)
            self.same(answer(*values, turns), run.outcome())

    def test_no_turns(self):
        # All is as it was ahead of the writes.
        for values in small_cases():
            is_there = values[3] in dict(values[0])
            self.same(answer(*values, ()), (is_there, True))
            self.same(answer(*values, []), (is_there, True))

    def test_turns_that_do_nothing(self):
        values = (((3, 1),), ("insert", 5, 1), "up", 5, "plain")
        self.same(answer(*values, [1, 1, 1, 0, 0, 0, 0, 1, 1]), (False, True))
        self.same(answer(*values, [0] * 500 + [1] * 500), (True, True))
        # A write behind the reader's end is none of its time.
        late = (((3, 1),), ("insert", 5, 1), "late", 5, "early")
        self.same(answer(*late, [1, 1, 0, 0]), (False, True))

    def test_a_reader_in_a_link_that_is_not_there_yet(self):
        values = (((3, 1), (9, 1)), ("insert", 5, 1), "late", 9, "plain")
        self.same(answer(*values, (0, 1, 1, 1)), (False, False))
        self.same(answer(*values, (0, 1, 1, 0)), (True, True))

    def test_true_at_the_begin_alone(self):
        # The reader finds the key in lane 2 when it is gone from lane 1: it was there when the reader began.
        values = (((1, 2), (5, 2)), ("remove", 5), "up", 5, "early")
        self.same(answer(*values, (1, 0, 1)), (True, True))
        self.same(answer(*values, (0, 1, 1)), (True, False))
        self.same(bad_turns(*values), (0, 1, 1))

    def test_larger_rows(self):
        random = Random(19)
        for _ in range(400):
            keys = sorted(random.sample(range(40), 6))
            towers = tuple([(key, random.randrange(1, 5)) for key in keys])
            act = random.choice(list(all_acts(towers, range(40), 4)))
            values = (towers, act, random.choice(ORDERS), random.choice((act[1], random.randrange(40))),
                      random.choice(MANNERS))
            turns = [random.randrange(2) for _ in range(20)]
            run, _ = run_of(values, turns)
            while run.answer is None:
                run.turn(1)
            self.same(answer(*values, turns), run.outcome())
            counts = outcomes(*values)
            self.assertIn(run.outcome(), counts)
            bad = bad_turns(*values)
            self.assertEqual(bad is None, all(is_true for _, is_true in counts))
            if bad is not None:
                run, did = run_of(values, bad)
                self.assertTrue(all(did))
                self.assertEqual(run.outcome()[1], False)
                self.assertEqual(bad[-1], 1)

    def test_greatest(self):
        towers = tuple([(key, 1 + 7 * key % 64) for key in range(1000)])
        flat = tuple([(key, 1) for key in range(1000)])
        for order, manner in product(ORDERS, MANNERS):
            self.assertIn((True, True), outcomes(towers, ("insert", 1000, 64), order, 999, manner))
            self.same(bad_turns(flat, ("remove", 500), order, 999, manner) is None, order != "late")
            self.same(answer(flat, ("insert", 1000, 64), order, 1000, manner, [0] * 1000), (True, True))


class FactTests(Case):
    def all_bad(self, order_in, order_out, manner):
        """(towers, act, key) with bad turns, of all small towers."""
        for many in range(4):
            for heights in product((1, 2), repeat=many):
                towers = tuple([(10 * at, height) for at, height in enumerate(heights)])
                for act in all_acts(towers, (-5, 0, 5, 10, 20, 25), 3):
                    for key in range(-5, 30, 5):
                        order = order_in if act[0] == "insert" else order_out
                        found = bad_turns(towers, act, order, key, manner)
                        height = act[2] if act[0] == "insert" else dict(towers)[act[1]]
                        yield towers, act, key, height, found

    def test_the_order_up_and_down(self):
        for manner in MANNERS:
            for _, _, _, _, found in self.all_bad("up", "down", manner):
                self.assertIsNone(found)

    def test_the_other_order(self):
        for _, _, _, _, found in self.all_bad("down", "up", "plain"):
            self.assertIsNone(found)
        for _, act, key, height, found in self.all_bad("down", "up", "early"):
            self.assertEqual(found is not None, height > 1 and key == act[1])

    def test_late(self):
        for towers, act, key, _, found in self.all_bad("late", "late", "plain"):
            behind = [other for other, _ in towers if other > act[1]]
            if behind and key == behind[0]:
                self.assertIsNotNone(found)


NO_ACTS = [
    (), (1,), ("insert",), ("remove",), ("insert", 5), ("remove", 5), ("remove", 7, 3), ("insert", 5, 0),
    ("insert", 5, 65), ("insert", 5, -1), ("insert", 5, True), ("insert", 5, "1"), ("insert", 5, None),
    ("insert", 7, 1), ("insert", True, 1), ("insert", None, 1), ("insert", "5", 1), ("remove", True), ("remove", None),
    ("remove", "7"), ("Insert", 5, 1), ("seek", 7), ("seek", 5, 1), (None, 7), (1, 7), ("insert", 5, 1, 1),
    ("", 7), (["remove"], 7), ("insert", 5, [1]), ("insert", LONG, LONG),
    {"remove": 1, 7: 2}, "remove", nested(3), nested(3000), [("remove", 7)], ("remove", 6), ("remove", -LONG),
]


class WrongTests(Case):
    def test_wrong(self):
        of_act = [(thing, {}) for thing in NO_ACTS + no_rows()]
        of_order = [(thing, {}) for thing in odd_things() + ["", "Up", "up ", "left", b"up", ["up"], ("up",), 0, 1]]
        of_manner = [(thing, {}) for thing in odd_things() + ["", "lean", "sharp", "Plain", ["plain"], ("early",), 0]]
        checks = [(0, NoTowers, of_towers()), (1, NoAct, of_act), (2, NoOrder, of_order)]
        reader = checks + [(3, NoKey, of_key()), (4, NoManner, of_manner)]
        for act in (("insert", 5, 2), ("remove", 7)):
            self.refuses(writes, (SOME, act, "up"), checks)
            self.refuses(behind_all, (SOME, act, "late"), checks)
            self.refuses(memory_after, (SOME, act, "up", 0), checks + [(3, NoNumber, of_number(-1, 65, LONG))])
            self.refuses(outcomes, (SOME, act, "down", 5, "plain"), reader)
            self.refuses(bad_turns, (SOME, act, "down", 5, "early"), reader)
            turns = [([0, 1, 2], {"index": 2}), ([-1], {"index": 0}), ((1, 0, 1, 7, None), {"index": 3})]
            self.refuses(answer, (SOME, act, "down", 5, "early", (0, 1)), reader + [
                (5, NoTurns, of_rows(2, -1) + turns),
            ])

    def test_acts_on_nothing(self):
        for act in (("remove", 7), ("insert", 7), ("insert", 7, 65)):
            self.fails(NoAct, {}, writes, (), act, "up")
        self.same(writes((), ("insert", 7, 1), "up"), [((7, 1), None), ((None, 1), 7)])

    def test_kept(self):
        towers, act = [[3, 1], [7, 3]], ["insert", 5, 2]
        self.keeps(writes, towers, act, "up")
        self.keeps(behind_all, towers, act, "up")
        self.keeps(memory_after, towers, act, "up", 2)
        self.keeps(outcomes, towers, act, "up", 7, "plain")
        self.keeps(bad_turns, towers, act, "late", 7, "plain")
        self.keeps(answer, towers, act, "up", 7, "plain", [0, 1])
        self.keeps(behind_all, towers, ["remove", 7], "late")


if __name__ == "__main__":
    unittest.main()
