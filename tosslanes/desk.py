"""A desk: keeps towers, and rows that were put aside, by words."""

from tosslanes.checks import is_row
from tosslanes.coins import check_rule, grown, limit_of
from tosslanes.deeds import with_tower, without_key
from tosslanes.errors import NoLine, NoText, Short
from tosslanes.figures import whole_of
from tosslanes.joins import join_cost, joined, split, split_cost
from tosslanes.ranks import between, nth, rank
from tosslanes.searches import SKIPPING, check_manner, cost_in, has_key
from tosslanes.towers import height_of, tallest

# What stands behind each word.
FORMS = {
    "insert": ("key", "coins"),
    "remove": ("key",),
    "seek": ("key",),
    "rank": ("key",),
    "nth": ("key",),
    "range": ("key", "key"),
    "split": ("key",),
    "join": (),
    "undo": (),
    "count": (),
}
CHANGING = ("put", "out", "split", "join")
PAID = ("insert", "remove", "seek", "range")
MOST_COINS = 64


class Desk:
    """Towers and rows aside, which begin with nothing, by a rule and a manner."""

    def __init__(self, rule, manner="plain"):
        check_rule(rule)
        check_manner(manner)
        self._rule = tuple(rule)
        self._manner = manner
        self._towers = ()
        self._aside = ()
        self._lines = []
        # The changing lines that were not taken back, each with what was there ahead of it.
        self._kept = []
        self._spent = (0, 0, 0)

    def say(self, line):
        """Do a line and return its answer."""
        word, values = _parsed(line)
        there = (line, self._towers, self._aside)
        if word == "undo":
            answer = self._undone()
        elif word in ("split", "join"):
            answer = self._moved(word, values)
        elif word in ("insert", "remove"):
            answer = self._changed(word, values)
        else:
            answer = self._told(word, values)
        if answer[0] in CHANGING:
            self._kept.append(there)
        if word in PAID and len(answer) > 1:
            self._spent = tuple([sum(pair) for pair in zip(self._spent, answer[-1])])
        self._lines.append(line)
        return answer

    def towers(self):
        """Return the towers."""
        return self._towers

    def aside(self):
        """Return the list of the rows aside, in the order in which they came."""
        return list(self._aside)

    def lines(self):
        """Return the list of all lines that were answered."""
        return list(self._lines)

    def kept(self):
        """Return the list of the changing lines that were not taken back."""
        return [line for line, towers, aside in self._kept]

    def spent(self):
        """Return the tuple of the sums of all rights, downs and compares."""
        return self._spent

    def _changed(self, word, values):
        """Return the answer to a line that inserts or removes a key."""
        key = values[0]
        paid = cost_in(self._towers, key, "lean" if self._manner in SKIPPING else "plain")
        is_there = has_key(self._towers, key)
        if word == "remove":
            if not is_there:
                return ("none", paid)
            height = height_of(self._towers, key)
            self._towers = without_key(self._towers, key)
            return ("out", height, paid)
        if is_there:
            return ("there", paid)
        coins = values[1]
        try:
            height, used = grown(coins, 0, limit_of(self._rule, tallest(self._towers)))
        except Short:
            return ("short",)
        if used < len(coins):
            return ("spare",)
        self._towers = with_tower(self._towers, key, height)
        return ("put", height, paid)

    def _told(self, word, values):
        """Return the answer to a line that changes nothing."""
        towers = self._towers
        if word == "count":
            return ("count", len(towers), tallest(towers), len(self._aside))
        key = values[0]
        if word == "seek":
            return ("seek", 1 if has_key(towers, key) else 0, cost_in(towers, key, self._manner))
        if word == "rank":
            return ("rank",) + rank(towers, key)
        if word == "nth":
            return ("nth",) + nth(towers, key) if 0 <= key < len(towers) else ("none",)
        keys, paid = between(towers, key, values[1])
        return ("range", tuple(keys), paid)

    def _moved(self, word, values):
        """Return the answer to a line that puts keys aside, or brings them back."""
        if word == "split":
            links = split_cost(self._towers, values[0])
            self._towers, rest = split(self._towers, values[0])
            self._aside = self._aside + (rest,)
            return ("split", len(rest), links)
        if not self._aside:
            return ("none",)
        last = self._aside[-1]
        if self._towers and last and self._towers[-1][0] >= last[0][0]:
            return ("clash",)
        links = join_cost(self._towers, last)
        self._towers = joined(self._towers, last)
        self._aside = self._aside[:-1]
        return ("join", len(last), links)

    def _undone(self):
        """Return the answer to a line that takes the last changing line back."""
        if not self._kept:
            return ("none",)
        line, self._towers, self._aside = self._kept.pop()
        return ("undo", line)


def replayed(rule, manner, lines):
    """Return a desk behind the lines of a row."""
    desk = Desk(rule, manner)
    if not is_row(lines):
        raise NoLine(-1)
    for row, line in enumerate(lines):
        try:
            desk.say(line)
        except NoText:
            raise NoLine(row) from None
    return desk


def _parsed(line):
    """Return (word, list of the values behind it) of a line; raise NoText if it is none."""
    if not isinstance(line, str):
        raise NoText(-1)
    words = line.split(" ")
    if words[0] not in FORMS:
        raise NoText(0)
    form = FORMS[words[0]]
    values = []
    for place, text in enumerate(words[1:], start=1):
        if place > len(form):
            raise NoText(place)
        value = _coins_of(text) if form[place - 1] == "coins" else whole_of(text)
        if value is None:
            raise NoText(place)
        values.append(value)
    if len(values) < len(form):
        raise NoText(len(words))
    return words[0], values


def _coins_of(text):
    """Return the tuple of the coins that a word tells, None if it tells none."""
    if text == "-":
        return ()
    if not 1 <= len(text) <= MOST_COINS or not all([sign in ("0", "1") for sign in text]):
        return None
    return tuple([int(sign) for sign in text])
