import re
import unittest
from itertools import product
from random import Random

from told import LONG, Case, odd_things, of_history, of_rows, of_towers
from tosslanes.errors import NoCoins, NoHistory, NoText, NoTowers
from tosslanes.texts import read, read_coins, read_history, show, show_coins, show_history

TOWERS = ((3, 1), (7, 3), (12, 2))
PICTURE = "3 -->7--->\n2 -->7>12>\n1 >3>7>12>"
NUMBER = "(?:0|-?[1-9][0-9]{0,29})"
SIGNS = "0123456789->; \nabcinserekmov"


def drawn(towers):
    """The picture, sign by sign."""
    rows = []
    for level in range(max([height for _, height in towers], default=0), 0, -1):
        row = str(level) + " "
        for key, height in towers:
            shown = ">" + str(key)
            row += shown if height >= level else "".join("-" for _ in shown)
        rows.append(row + ">")
    return "\n".join(rows)


def wrong_row(text):
    """The index of the first row from below that cannot stand there, None if all can."""
    if text == "":
        return None
    rows = text.split("\n")
    match = re.fullmatch(f"1 ((?:>{NUMBER})+)>", rows[-1])
    keys = [int(key) for key in match[1][1:].split(">")] if match else []
    if not match or keys != sorted(set(keys)):
        return len(rows) - 1
    below = {key: 1 for key in keys}
    for at in range(len(rows) - 2, -1, -1):
        level = len(rows) - at
        # What may stand at each place, by a pattern.
        places = []
        for key in keys:
            shown = f">{key}"
            places.append(f"({shown}|{'-' * len(shown)})" if below[key] == level - 1 else f"({'-' * len(shown)})")
        match = re.fullmatch(f"{level} {''.join(places)}>", rows[at])
        found = [key for key, part in zip(keys, match.groups()) if part.startswith(">")] if match else []
        if not found:
            return at
        for key in found:
            below[key] = level
    return None


def changed(random, text):
    """The text with one sign changed, put in or left out."""
    at = random.randrange(len(text) + 1)
    kind = random.randrange(3)
    if kind == 0 or at == len(text):
        return text[:at] + random.choice(SIGNS) + text[at:]
    return text[:at] + (random.choice(SIGNS) if kind == 1 else "") + text[at + 1:]


class PictureTests(Case):
    def test_example(self):
        self.same(show(TOWERS), PICTURE)
        self.same(read(PICTURE), TOWERS)
        self.same([show(towers=[[3, 1]]), read(text="1 >3>")], ["1 >3>", ((3, 1),)])

    def test_all_small_towers(self):
        for keys in ((1, 2, 3), (-5, 0, 12), (-100, 7, 99), (9, 10, 11)):
            for many in range(4):
                for heights in product((1, 2, 3), repeat=many):
                    towers = tuple(zip(keys, heights))
                    self.same(show(towers), drawn(towers))
                    self.same(read(drawn(towers)), towers)

    def test_some(self):
        self.same([show(()), read("")], ["", ()])
        self.same(show(((-3, 2), (10, 1))), "2 >-3--->\n1 >-3>10>")
        self.same(read("2 >-3--->\n1 >-3>10>"), ((-3, 2), (10, 1)))
        towers = ((-LONG, 1), (0, 64), (LONG, 63))
        self.same(read(show(towers)), towers)
        self.same(show(towers).split("\n")[0], "64 " + "-" * 32 + ">0" + "-" * 31 + ">")
        random = Random(20)
        towers = tuple([(key * key - 500, random.randrange(1, 65)) for key in range(1000)])
        self.same(show(towers), drawn(towers))
        self.same(read(show(towers)), towers)

    def test_wrong_rows(self):
        rows = [
            (" ", 0), ("1", 0), ("1 ", 0), ("1 >", 0), ("1 >>", 0), (">3>", 0), ("1>3>", 0), ("1  >3>", 0), ("1 >3", 0),
            ("1 3>", 0), ("1 >3> ", 0), (" 1 >3>", 0), ("2 >3>", 0), ("01 >3>", 0), ("0 >3>", 0), ("1 >x>", 0),
            ("1 >03>", 0), ("1 >-0>", 0), ("1 >+3>", 0), ("1 >3>3>", 0), ("1 >4>3>", 0), ("1 >3>-4>", 0),
            ("1 >3>>4>", 0), ("1 --->", 0), ("1 >3--->", 0), ("1 >-1>-2>", 0), ("1 >" + "1" * 31 + ">", 0),
            ("1 >-" + "1" * 31 + ">", 0), ("1 >3>\n", 1), ("\n1 >3>", 0), ("\n", 1), ("1 >3>\n1 >3>", 0),
            ("2 -->\n1 >3>", 0), ("3 >3>\n1 >3>", 0), ("2 >4>\n1 >3>", 0), ("2 >3>>\n1 >3>", 0), ("2 >3\n1 >3>", 0),
            ("2 --->\n1 >3>", 0), ("2 ->3>\n1 >3>", 0), ("2 >3> \n1 >3>", 0), ("2  >3>\n1 >3>", 0),
            ("02 >3>\n1 >3>", 0), ("3 >3-->\n2 -->7>\n1 >3>7>", 0), ("3 >3-->\n2 ---->\n1 >3>7>", 1),
            ("x\n2 >8-->\n1 >3>7>", 1), ("x\ny\n1 >7>3>", 2), ("2 >3>8>\n1 >3>7>", 0), ("2 >-->\n1 >-5>", 0),
            ("3 >3>\n2 >3>\n2 >3>\n1 >3>", 1), ("2 >3>7>\n\n1 >3>7>", 1), ("1 >3>\n2 >3>", 1),
        ]
        for text, place in rows:
            with self.subTest(text):
                self.assertEqual(wrong_row(text), place)
                self.fails(NoText, {"place": place}, read, text)

    def test_one_sign_changed(self):
        random = Random(21)
        for _ in range(4000):
            keys = sorted(random.sample(range(-12, 112), random.randrange(1, 5)))
            text = drawn([(key, random.randrange(1, 4)) for key in keys])
            for _ in range(random.randrange(1, 3)):
                text = changed(random, text)
            place = wrong_row(text)
            if place is None:
                self.same(show(read(text)), text)
            else:
                self.fails(NoText, {"place": place}, read, text)


class CoinTests(Case):
    def test_all_short_rows(self):
        for many in range(5):
            for coins in product((0, 1), repeat=many):
                text = "".join(map(str, coins))
                self.same([show_coins(coins), show_coins(list(coins))], [text, text])
                self.same(read_coins(text), coins)
        self.same([show_coins(coins=[1, 0]), read_coins(text="10")], ["10", (1, 0)])
        self.same(read_coins("01" * 500), (0, 1) * 500)

    def test_wrong_signs(self):
        for text, place in (("2", 0), ("012", 2), ("-", 0), ("1 0", 1), ("10\n", 2), ("01a2", 2), (" ", 0), ("00,", 2)):
            self.fails(NoText, {"place": place}, read_coins, text)


class HistoryTests(Case):
    def test_there_and_back(self):
        random = Random(22)
        for many in range(30):
            history = tuple([
                (random.choice(("insert", "remove", "seek")), random.choice((0, 7, -3, LONG, -LONG, 10)))
                for _ in range(many)
            ])
            text = "; ".join([f"{word} {key}" for word, key in history])
            self.same([show_history(history), show_history([list(deed) for deed in history])], [text, text])
            self.same(read_history(text), history)
        self.same([show_history([]), read_history("")], ["", ()])
        self.same(show_history(history=[["seek", -1]]), "seek -1")
        self.same(read_history(text="seek -1; insert 0"), (("seek", -1), ("insert", 0)))

    def test_wrong_parts(self):
        rows = [
            (" ", 0), ("insert", 0), ("insert ", 0), ("insert  1", 0), ("insert 1 ", 0), (" insert 1", 0), ("put 1", 0),
            ("Insert 1", 0), ("insert x", 0), ("insert 01", 0), ("insert -0", 0), ("insert +1", 0), ("insert 1;", 0),
            ("insert 1; ", 1), ("insert 1;seek 2", 0), ("insert 1;  seek 2", 1), ("insert 1; ; seek 2", 1),
            ("; insert 1", 0), ("insert 1; seek 2; x; y", 2), ("insert 1, seek 2", 0), ("insert 1 2", 0),
            ("seek " + "1" * 31, 0), ("seek -" + "1" * 31, 0), ("seek 1\n", 0), ("seek 1\n; seek 2", 0), (";", 0),
            ("; ", 0), ("seek 1; seek 2;", 1), ("seek 1 ; seek 2", 0), ("1 seek", 0), ("seek1", 0), ("seek\n1", 0),
        ]
        for text, place in rows:
            with self.subTest(text):
                self.fails(NoText, {"place": place}, read_history, text)

    def test_one_sign_changed(self):
        random = Random(23)
        deed = re.compile(f"(?:insert|remove|seek) {NUMBER}")
        for _ in range(3000):
            words = [random.choice(("insert", "remove", "seek")) for _ in range(random.randrange(1, 4))]
            text = changed(random, "; ".join([f"{word} {random.randrange(-3, 40)}" for word in words]))
            wrong = [at for at, part in enumerate(text.split("; ")) if not deed.fullmatch(part)]
            if text == "" or not wrong:
                self.same(show_history(read_history(text)), text)
            else:
                self.fails(NoText, {"place": wrong[0]}, read_history, text)


class WrongTests(Case):
    def test_wrong(self):
        self.refuses(show, (TOWERS,), [(0, NoTowers, of_towers())])
        self.refuses(show_coins, ((1, 0),), [(0, NoCoins, of_rows(2, -1))])
        self.refuses(show_history, ([("seek", 1)],), [(0, NoHistory, of_history())])
        for function in (read, read_coins, read_history):
            for thing in odd_things() + [0, 1, -1, [], (), ["1"], ("",), b"1", LONG]:
                self.fails(NoText, {"place": -1}, function, thing)

    def test_kept(self):
        self.keeps(show, [[3, 1], [7, 2]])
        self.keeps(read, PICTURE)
        self.keeps(show_coins, [1, 0])
        self.keeps(read_coins, "10")
        self.keeps(show_history, [["seek", 1]])
        self.keeps(read_history, "seek 1")


if __name__ == "__main__":
    unittest.main()
