"""Lookers: they insert and remove keys, so that a search for a key makes as many comparisons as it can on average."""

from tosslanes.coins import limit_of
from tosslanes.deeds import with_tower, without_key
from tosslanes.lots import height_weights
from tosslanes.searches import cost_in, has_key
from tosslanes.shares import NOTHING, is_less, plus, share, times, to_power
from tosslanes.towers import tallest


class Looker:
    """A looker that sees the towers ahead of each deed."""

    def __init__(self, keys, key, manner, chance, rule):
        self.own = keys
        self.key = key
        self.manner = manner
        self.chance = share(chance[0], chance[1])
        self.rule = rule
        self.known = {}

    def best(self, towers, many):
        """Return (value, deed): the value for at most so many deeds, and the first deed, None to stop at once."""
        if (towers, many) not in self.known:
            self.known[(towers, many)] = self._best(towers, many)
        return self.known[(towers, many)]

    def _best(self, towers, many):
        """Return what best returns, which is not known yet."""
        value = (cost_in(towers, self.key, self.manner)[2], 1)
        deed = None
        if many == 0:
            return value, deed
        away = [("insert", key) for key in self.own if not has_key(towers, key)]
        there = [("remove", key) for key in self.own if has_key(towers, key)]
        for word, key in away + there:
            if word == "insert":
                other = self._behind_insertion(towers, key, many - 1)
            else:
                other = self.best(without_key(towers, key), many - 1)[0]
            if is_less(value, other):
                value = other
                deed = (word, key)
        return value, deed

    def _behind_insertion(self, towers, key, many):
        """Return the mean of the values for so many more deeds behind an insertion."""
        limit = limit_of(self.rule, tallest(towers))
        below = to_power(self.chance[1], limit - 1)
        mean = NOTHING
        for height, weight in enumerate(height_weights(self.chance, limit, limit), start=1):
            value = self.best(with_tower(towers, key, height), many)[0]
            mean = plus(mean, times(share(weight, below), value))
        return mean


class Blind:
    """A looker that tells all its deeds ahead of all coins, by a cap."""

    def __init__(self, keys, key, manner, chance, cap):
        self.own = keys
        self.key = key
        self.manner = manner
        one = share(chance[0], chance[1])
        self.weights = height_weights(one, cap, cap)
        self.below = to_power(one[1], cap - 1)

    def best(self, towers, many):
        """Return (value, history): the greatest mean for at most so many deeds, and a shortest history with it."""
        ways = [(towers, (), [])]
        for key in self.own:
            ways = [longer for way in ways for longer in _ways(way, key)]
        ways = [way for way in ways if len(way[2]) <= many]
        # The shortest ones stand first; among them a later one must be better.
        found = None
        for old, new, deeds in sorted(ways, key=lambda way: len(way[2])):
            value = self._mean(old, new)
            if found is None or is_less(found[0], value):
                found = (value, deeds)
        return found

    def _mean(self, old, new):
        """Return the mean number of comparisons with some towers and some new keys."""
        rows = [(old, 1)]
        for key in new:
            rows = [
                (with_tower(towers, key, at + 1), count * weight)
                for towers, count in rows for at, weight in enumerate(self.weights)
            ]
        total = sum([count * cost_in(towers, self.key, self.manner)[2] for towers, count in rows])
        return share(total, to_power(self.below, len(new)))


def _ways(way, key):
    """Return all that may be done with a key, in as few deeds as it can be, behind (towers left, new keys, deeds)."""
    old, new, deeds = way
    put = ("insert", key)
    if not has_key(old, key):
        return [way, (old, new + (key,), deeds + [put])]
    rest = without_key(old, key)
    out = ("remove", key)
    return [way, (rest, new, deeds + [out]), (rest, new + (key,), deeds + [out, put])]
