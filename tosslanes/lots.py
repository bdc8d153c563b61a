"""Lots: all towers that there may be behind the acts of a plan, with their chances."""

from math import gcd, lcm

from tosslanes.coins import is_rule, limit_of
from tosslanes.errors import NoNumber, NoRule
from tosslanes.shares import powers_of, share, to_power
from tosslanes.towers import count_below, tallest

MOST_TOWERS = 5000


class Lots:
    """A dict from towers to counts; the chance of towers is their count / below. It begins with nothing."""

    def __init__(self, chance, rule):
        self.chance = share(chance[0], chance[1])
        self.rule = rule
        self.table = {(): 1}
        self.below = 1

    def do(self, plan):
        """Do the acts of a plan; raise NoNumber if there are too many towers behind one."""
        for act in plan:
            word = act[0]
            if word == "insert":
                self._put(act[1])
            elif word == "remove":
                self._take(act[1])
            elif word == "if":
                self._choose(act)
            elif word != "seek":
                self._pick(word == "tallest", act[1] == "again")

    def chances(self):
        """Return the dict from all towers to their chances, sorted by towers."""
        return {towers: share(self.table[towers], self.below) for towers in sorted(self.table)}

    def _put(self, key):
        """Insert a key into the towers in which it is not."""
        there = {}
        away = {}
        for towers, count in self.table.items():
            if _height(towers, key) > 0:
                _add(there, towers, count)
            else:
                _add(away, (towers, key), count)
        self._grow(there, away)

    def _take(self, key):
        """Remove a key from the towers in which it is."""
        table = {}
        for towers, count in self.table.items():
            _add(table, _without(towers, key) if _height(towers, key) > 0 else towers, count)
        self._keep(table)

    def _pick(self, is_tallest, again):
        """Remove the highest or the lowest tower, and insert its key again if this is wanted."""
        table = {}
        away = {}
        for towers, count in self.table.items():
            if not towers:
                _add(table, towers, count)
                continue
            heights = [height for key, height in towers]
            key = towers[heights.index(max(heights) if is_tallest else min(heights))][0]
            rest = _without(towers, key)
            if again:
                _add(away, (rest, key), count)
            else:
                _add(table, rest, count)
        if again:
            self._grow(table, away)
        else:
            self._keep(table)

    def _choose(self, act):
        """Do one of two plans, by the height of a key."""
        word, key, height, plan, other = act
        high = {towers: count for towers, count in self.table.items() if _height(towers, key) >= height}
        low = {towers: count for towers, count in self.table.items() if towers not in high}
        parts = [self._led(high, plan), self._led(low, other)]
        self.below = lcm(parts[0].below, parts[1].below)
        table = {}
        for part in parts:
            factor = self.below // part.below
            for towers, count in part.table.items():
                _add(table, towers, count * factor)
        self._keep(table)

    def _led(self, table, plan):
        """Return what comes of a part of the towers by a plan."""
        part = Lots(self.chance, self.rule)
        part.table = table
        part.below = self.below
        part.do(plan)
        return part

    def _grow(self, table, away):
        """Add to a dict what comes of pairs (towers, key), by a dict from these to their counts."""
        limits = {pair: limit_of(self.rule, tallest(pair[0])) for pair in away}
        greatest = max(limits.values(), default=1)
        factor = to_power(self.chance[1], greatest - 1)
        grown = {towers: count * factor for towers, count in table.items()}
        weights = {}
        for pair, limit in limits.items():
            if limit not in weights:
                weights[limit] = height_weights(self.chance, limit, greatest)
            rest, key = pair
            count = away[pair]
            place = count_below(rest, key)
            ahead = rest[:place]
            behind = rest[place:]
            for at, weight in enumerate(weights[limit], start=1):
                _add(grown, ahead + ((key, at),) + behind, count * weight)
            check_most(grown)
        self.table = grown
        self.below *= factor

    def _keep(self, table):
        """Take a dict as that of the towers, with the counts in lowest terms."""
        check_most(table)
        divisor = self.below
        for count in table.values():
            if divisor == 1:
                break
            divisor = gcd(divisor, count)
        self.table = {towers: count // divisor for towers, count in table.items()}
        self.below //= divisor


def check_finite(rule):
    """Raise NoRule if an object is no rule, or the rule free."""
    if not is_rule(rule) or rule[0] == "free":
        raise NoRule()


def check_most(table):
    """Raise NoNumber if there are too many towers."""
    if len(table) > MOST_TOWERS:
        raise NoNumber(MOST_TOWERS)


def height_weights(chance, limit, greatest):
    """Return the chances of the heights 1, 2, .., the limit, of a tower that may grow to it.

    They are whole multiples of 1 / below ** (greatest - 1), where the chance is part / below.
    """
    part, below = chance
    parts = powers_of(part, limit - 1)
    belows = powers_of(below, greatest - 1)
    weights = [(below - part) * parts[at] * belows[greatest - 2 - at] for at in range(limit - 1)]
    return weights + [parts[limit - 1] * belows[greatest - limit]]


def _add(table, thing, count):
    """Add a count to that of a thing, as several ways may come to the same one."""
    table[thing] = table.get(thing, 0) + count


def _height(towers, key):
    """Return the height of a key, 0 if it is not there."""
    at = count_below(towers, key)
    if at == len(towers) or towers[at][0] != key:
        return 0
    return towers[at][1]


def _without(towers, key):
    """Return towers, a tuple, without a key that is there."""
    at = count_below(towers, key)
    return towers[:at] + towers[at + 1:]
