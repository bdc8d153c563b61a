import unittest
from random import Random

from told import Case, no_rows, odd_things, of_manner, of_rule
from tosslanes.coins import most, toss
from tosslanes.deeds import run
from tosslanes.desk import Desk, replayed
from tosslanes.errors import NoLine, NoManner, NoRule, NoText, Short
from tosslanes.joins import join_cost, split_cost
from tosslanes.ranks import between, nth, rank
from tosslanes.searches import MANNERS, cost

RULES = [("free",), ("cap", 1), ("cap", 2), ("cap", 4), ("step",), ("step", 1), ("step", 3)]


class Naive:
    """A desk that keeps dicts, and does all kept lines anew to take one back."""

    def __init__(self, rule, manner):
        self.rule, self.manner = rule, manner
        self.there, self.rows = {}, []
        self.said, self.kept = [], []
        self.sums = [0, 0, 0]

    def towers(self):
        return tuple(sorted(self.there.items()))

    def aside(self):
        return [tuple(sorted(row.items())) for row in self.rows]

    def say(self, line):
        answer = self.answer(line.split(" "))
        if answer[0] in ("put", "out", "split", "join"):
            self.kept.append(line)
        if line.split(" ")[0] in ("insert", "remove", "seek", "range") and len(answer) > 1:
            self.sums = [one + two for one, two in zip(self.sums, answer[-1])]
        self.said.append(line)
        return answer

    def paid(self, key):
        return cost(self.towers(), key, "lean" if self.manner in ("lean", "sharp") else "plain")

    def put(self, key, coins):
        if key in self.there:
            return "there", self.paid(key)
        try:
            height, used = toss(coins, 0, self.rule, max(self.there.values(), default=0))
        except Short:
            return ("short",)
        if used < len(coins):
            return ("spare",)
        answer = ("put", height, self.paid(key))
        self.there[key] = height
        return answer

    def answer(self, words):
        values = [int(word) for word in words[1:2]] + words[2:]
        key = values[0] if values else None
        if words[0] == "insert":
            return self.put(key, [] if values[1] == "-" else [int(sign) for sign in values[1]])
        if words[0] == "remove":
            if key not in self.there:
                return "none", self.paid(key)
            answer = ("out", self.there[key], self.paid(key))
            del self.there[key]
            return answer
        if words[0] == "seek":
            return "seek", int(key in self.there), cost(self.towers(), key, self.manner)
        if words[0] == "rank":
            return ("rank",) + rank(self.towers(), key)
        if words[0] == "nth":
            return ("nth",) + nth(self.towers(), key) if key in range(len(self.there)) else ("none",)
        if words[0] == "range":
            keys, paid = between(self.towers(), key, int(values[1]))
            return "range", tuple(keys), paid
        if words[0] == "count":
            return "count", len(self.there), max(self.there.values(), default=0), len(self.rows)
        return self.moved(words[0], key)

    def moved(self, word, key):
        if word == "split":
            links = split_cost(self.towers(), key)
            self.rows.append({other: height for other, height in self.there.items() if other >= key})
            self.there = {other: height for other, height in self.there.items() if other < key}
            return "split", len(self.rows[-1]), links
        if word == "join":
            if not self.rows:
                return ("none",)
            last = self.rows[-1]
            if self.there and last and max(self.there) >= min(last):
                return ("clash",)
            answer = ("join", len(last), join_cost(self.towers(), self.aside()[-1]))
            self.there.update(self.rows.pop())
            return answer
        if not self.kept:
            return ("none",)
        line = self.kept.pop()
        again = Naive(self.rule, self.manner)
        for other in self.kept:
            again.say(other)
        self.there, self.rows = again.there, again.rows
        return "undo", line


def some_lines(random, many):
    """Lines of all words."""
    for _ in range(many):
        word = random.choice(["insert"] * 8 + ["remove"] * 2 + [
            "seek", "rank", "nth", "range", "split", "split", "join", "join", "join", "undo", "undo", "undo", "count",
        ])
        key = random.randrange(-3, 12)
        if word == "insert":
            coins = random.choice(["-", "0", "10", "110", "1", "111", "01", "1110"])
            yield f"insert {key} {coins}"
        elif word == "range":
            yield f"range {key} {random.randrange(-3, 12)}"
        elif word in ("join", "undo", "count"):
            yield word
        else:
            yield f"{word} {key}"


def state(desk):
    return desk.towers(), desk.aside(), desk.lines(), desk.kept(), desk.spent()


class DeskTests(Case):
    def test_example(self):
        desk = Desk(("free",))
        told = [desk.say(line) for line in ("insert 7 110", "insert 3 0", "insert 9 1", "seek 7")]
        more = [desk.say(line) for line in ("split 7", "join", "undo")]
        self.same(told + more, [
            ("put", 3, (0, 0, 0)), ("put", 1, (0, 2, 4)), ("short",), ("seek", 1, (1, 2, 5)), ("split", 1, 1),
            ("join", 1, 1), ("undo", "join"),
        ])
        kept = ["insert 7 110", "insert 3 0", "split 7"]
        self.same((desk.towers(), desk.aside(), desk.kept(), desk.spent()), (((3, 1),), [((7, 3),)], kept, (1, 4, 9)))

    def test_nothing(self):
        for rule in RULES:
            self.same(state(Desk(rule)), ((), [], [], [], (0, 0, 0)))
            self.same(state(Desk(manner="sharp", rule=list(rule))), ((), [], [], [], (0, 0, 0)))
            self.same(state(replayed(rule, "lean", ())), ((), [], [], [], (0, 0, 0)))

    def test_against_dicts(self):
        random = Random(19)
        for rule in RULES:
            for manner in MANNERS:
                for _ in range(4):
                    desk, naive = Desk(rule, manner), Naive(rule, manner)
                    for line in some_lines(random, 80):
                        self.same(desk.say(line), naive.say(line))
                        found = (naive.towers(), naive.aside(), naive.said, naive.kept, tuple(naive.sums))
                        self.same(state(desk), found)
                    self.same(state(replayed(rule, manner, tuple(desk.lines()))), state(desk))
                    again = replayed(rule, manner, desk.kept())
                    self.same((again.towers(), again.aside()), (desk.towers(), desk.aside()))
                    for line in desk.kept()[::-1]:
                        self.same(desk.say("undo"), ("undo", line))
                    self.same((desk.towers(), desk.aside(), desk.kept()), ((), [], []))
                    self.same(desk.say("undo"), ("none",))

    def test_run(self):
        # Only insert and remove: the towers of run, with the coins of those that were put.
        random = Random(20)
        for rule in RULES:
            desk = Desk(rule)
            history, coins = [], []
            for line in some_lines(random, 200):
                word, *values = line.split(" ")
                if word in ("insert", "remove"):
                    answer = desk.say(line)
                    if answer[0] not in ("short", "spare"):
                        history.append((word, int(values[0])))
                    if answer[0] == "put":
                        coins += [int(sign) for sign in values[1] if sign != "-"]
            towers, used, costs = run(history, coins, rule)
            self.same((towers, used), (desk.towers(), len(coins)))
            self.same(desk.spent(), tuple(map(sum, zip(*costs))))


class LineTests(Case):
    def test_nothing_aside(self):
        desk = Desk(("cap", 2))
        self.same([desk.say("join"), desk.say("undo"), desk.say("count")], [("none",), ("none",), ("count", 0, 0, 0)])
        self.same([desk.say("nth 0"), desk.say("nth -1"), desk.say("rank 5")], [("none",), ("none",), ("rank", 0, 0)])
        self.same(desk.say("range 5 3"), ("range", (), (0, 0, 0)))
        self.same(desk.lines(), ["join", "undo", "count", "nth 0", "nth -1", "rank 5", "range 5 3"])
        self.same(desk.kept(), [])

    def test_split_of_no_keys(self):
        desk = Desk(("cap", 2))
        self.same(desk.say("split 0"), ("split", 0, 0))
        self.same([desk.aside(), desk.kept()], [[()], ["split 0"]])
        self.same(desk.say("insert 4 0"), ("put", 1, (0, 0, 0)))
        self.same(desk.say("split 9"), ("split", 0, 0))
        self.same(desk.say("count"), ("count", 1, 1, 2))
        self.same(desk.say("join"), ("join", 0, 0))
        self.same([desk.say("undo"), desk.aside()], [("undo", "join"), [(), ()]])
        self.same([desk.say("undo"), desk.aside()], [("undo", "split 9"), [()]])
        self.same([desk.say("undo"), desk.towers()], [("undo", "insert 4 0"), ()])
        self.same([desk.say("undo"), desk.aside()], [("undo", "split 0"), []])
        self.same(desk.say("undo"), ("none",))

    def test_clash(self):
        desk = Desk(("cap", 1))
        for line in ("insert 5 -", "insert 7 -", "split 6", "insert 9 -"):
            desk.say(line)
        self.same(desk.say("join"), ("clash",))
        self.same([desk.towers(), desk.aside()], [((5, 1), (9, 1)), [((7, 1),)]])
        desk.say("remove 9")
        desk.say("insert 7 -")
        self.same(desk.say("join"), ("clash",))
        desk.say("remove 7")
        self.same(desk.say("join"), ("join", 1, 1))
        self.same(desk.kept()[-1], "join")

    def test_rows_come_back_from_behind(self):
        desk = Desk(("cap", 1))
        for line in ("insert 1 -", "insert 2 -", "insert 3 -", "split 3", "split 2"):
            desk.say(line)
        self.same(desk.aside(), [((3, 1),), ((2, 1),)])
        self.same([desk.say("join"), desk.aside()], [("join", 1, 1), [((3, 1),)]])
        self.same([desk.say("join"), desk.aside()], [("join", 1, 1), []])

    def test_a_line_said_again_behind_undo(self):
        desk = Desk(("free",))
        self.same(desk.say("insert 4 10"), ("put", 2, (0, 0, 0)))
        self.same(desk.say("undo"), ("undo", "insert 4 10"))
        self.same(desk.say("insert 4 10"), ("put", 2, (0, 0, 0)))
        self.same(desk.say("insert 4 0"), ("there", (0, 1, 3)))
        self.same([desk.kept(), desk.spent()], [["insert 4 10"], (0, 1, 3)])
        self.same(desk.lines(), ["insert 4 10", "undo", "insert 4 10", "insert 4 0"])

    def test_coins(self):
        desk = Desk(("step",))
        # The first key wants no coin.
        self.same([desk.say("insert 4 0"), desk.say("insert 4 1")], [("spare",), ("spare",)])
        self.same(desk.say("insert 4 -"), ("put", 1, (0, 0, 0)))
        self.same([desk.say("insert 5 -"), desk.say("insert 5 00"), desk.say("insert 5 11")],
                  [("short",), ("spare",), ("spare",)])
        self.same(desk.say("insert 5 1"), ("put", 2, (1, 0, 1)))
        # What is there already does not look at the coins.
        self.same([desk.say("insert 5 -")[0], desk.say("insert 5 0101")[0]], ["there", "there"])
        self.same(most(("step",), 2), 3)
        self.same(desk.say("insert 6 11"), ("put", 3, (1, 1, 1)))
        free = Desk(("free",))
        self.same(free.say("insert 1 " + "1" * 63 + "0"), ("put", 64, (0, 0, 0)))
        self.same(free.say("insert 2 " + "1" * 64), ("short",))

    def test_costs_by_the_manner(self):
        for manner in MANNERS:
            desk = Desk(("free",), manner)
            for line in ("insert 3 0", "insert 7 110", "insert 12 10", "insert 20 0"):
                desk.say(line)
            towers = ((3, 1), (7, 3), (12, 2), (20, 1))
            other = {"plain": "plain", "early": "plain", "lean": "lean", "sharp": "lean"}[manner]
            self.same(desk.say("seek 12"), ("seek", 1, cost(towers, 12, manner)))
            self.same(desk.say("seek 13"), ("seek", 0, cost(towers, 13, manner)))
            self.same(desk.say("insert 12 -"), ("there", cost(towers, 12, other)))
            self.same(desk.say("remove 13"), ("none", cost(towers, 13, other)))
            self.same(desk.say("range 4 12"), ("range", (7, 12), between(towers, 4, 12)[1]))
            self.same(desk.say("nth 2"), ("nth", 12, (2, 1, 3)))
            self.same(desk.say("rank 13"), ("rank", 3, 2))
            self.same(desk.say("remove 12"), ("out", 2, cost(towers, 12, other)))

    def test_words(self):
        rows = [
            ("", 0), (" ", 0), ("Insert 1 1", 0), ("insert", 1), ("insert 1", 2), ("insert x", 1), ("insert  1 0", 1),
            (" insert 1 0", 0), ("insert 1 0 ", 3), ("insert 1 0 0", 3), ("insert 1  0", 2), ("insert 1 ", 2),
            ("insert 1 2", 2), ("insert 1 01x", 2), ("insert 1 --", 2), ("insert 1 -0", 2), ("insert - -", 1),
            ("insert +1 0", 1), ("insert 01 0", 1), ("insert -0 0", 1), ("insert 00 0", 1), ("insert -01 0", 1),
            ("insert 1.0 0", 1), ("insert 1_0 0", 1), ("insert 0x1 0", 1), ("insert x x x", 1),
            ("insert " + "1" * 31 + " 0", 1), ("insert -" + "1" * 31 + " 0", 1), ("insert 1 " + "1" * 65, 2),
            ("remove", 1), ("remove ", 1), ("remove 1 1", 2), ("remove 1 ", 2), ("seek", 1), ("seek --1", 1),
            ("rank", 1), ("rank 1 2", 2), ("nth", 1), ("nth a", 1), ("range", 1), ("range 1", 2), ("range 1 x", 2),
            ("range x 1", 1), ("range 1 2 3", 3), ("range 1  2", 2), ("split", 1), ("split a", 1), ("split 1 1", 2),
            ("join 1", 1), ("join ", 1), ("undo undo", 1), ("undo ", 1), ("count 3", 1), ("count  ", 1),
            ("towers", 0), ("say count", 0), ("count\n", 0), ("\ncount", 0), ("insert\n1 0", 0), ("seek 1\n", 1),
            ("join\njoin", 0), ("insert 1 0\n", 2), ("put 1 0", 0), ("- 1", 0), ("1", 0), ("undo,", 0),
        ]
        desk = Desk(("free",))
        desk.say("insert 1 0")
        before = state(desk)
        for line, place in rows:
            with self.subTest(line):
                self.fails(NoText, {"place": place}, desk.say, line)
                self.same(state(desk), before)
                self.fails(NoLine, {"row": 1}, replayed, ("free",), "plain", ["count", line, "", None])
        for line in odd_things() + [0, 1, -1, ["count"], ("count",), b"count"]:
            self.fails(NoText, {"place": -1}, desk.say, line)
            self.same(state(desk), before)
            self.fails(NoLine, {"row": 0}, replayed, ("free",), "plain", (line, ""))

    def test_figures(self):
        desk = Desk(("cap", 1))
        for key in ("0", "5", "-5", "1" + "0" * 29, "-" + "9" * 30, "10"):
            self.same(desk.say(f"insert {key} -")[:2], ("put", 1))
        self.same(desk.towers(), tuple([(key, 1) for key in (1 - 10 ** 30, -5, 0, 5, 10, 10 ** 29)]))
        self.same(desk.say(line="nth 5"), ("nth", 10 ** 29, (6, 0, 6)))


class WrongTests(Case):
    def test_wrong(self):
        checks = [(0, NoRule, of_rule()), (1, NoManner, of_manner())]
        self.refuses(Desk, (("free",), "plain"), checks)
        lines = [(thing, {"row": -1}) for thing in no_rows()] + [(["count", "x"], {"row": 1}), ((1,), {"row": 0})]
        self.refuses(replayed, (("free",), "plain", []), checks + [(2, NoLine, lines)])
        self.fails(NoRule, {}, Desk, None)
        self.same(state(replayed(lines=["insert 1 0"], manner="plain", rule=["free"]))[0], ((1, 1),))

    def test_what_is_returned_is_new(self):
        desk = Desk(("free",))
        for line in ("insert 1 0", "insert 2 10", "split 2"):
            desk.say(line)
        before = state(desk)
        for function in (desk.aside, desk.lines, desk.kept):
            found = function()
            found.append("more")
            found.clear()
            self.same(state(desk), before)

    def test_what_is_passed_has_no_effect_later(self):
        rule = ["cap", 1]
        desk = Desk(rule)
        rule[1] = 3
        self.same(desk.say("insert 1 -"), ("put", 1, (0, 0, 0)))
        self.same(rule, ["cap", 3])
        rule, lines = ["cap", 1], ["insert 1 -", "insert 2 -"]
        desk = replayed(rule, "plain", lines)
        self.same((rule, lines), (["cap", 1], ["insert 1 -", "insert 2 -"]))
        rule[:] = ["free"]
        lines.append("count")
        self.same(desk.say("insert 3 -"), ("put", 1, (2, 0, 2)))
        self.same(desk.lines(), ["insert 1 -", "insert 2 -", "insert 3 -"])

    def test_desks_do_not_know_of_one_another(self):
        one, other = Desk(("free",)), Desk(("free",))
        one.say("insert 1 0")
        self.same(state(other), ((), [], [], [], (0, 0, 0)))


if __name__ == "__main__":
    unittest.main()
