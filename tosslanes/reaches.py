"""Reaches: the rows of heights that the keys there can have behind a history, by a finite rule.

Rows are dicts from tuples of heights, in the order in which their keys were put in, to counts.
"""

from tosslanes.coins import limit_of
from tosslanes.errors import NoNumber
from tosslanes.lots import MOST_TOWERS, check_most, height_weights
from tosslanes.shares import NOTHING, plus, powers_of, share, times, to_power


def changes(history):
    """Return the list of (index, word, place) of the deeds of a history that put a key in, or take one out.

    The place is that of the key among those that are there, in the order in which they were put in.
    """
    told = []
    keys = []
    for index, (word, key) in enumerate(history):
        if word == "insert" and key not in keys:
            told.append((index, word, len(keys)))
            keys.append(key)
        elif word == "remove" and key in keys:
            told.append((index, word, keys.index(key)))
            keys.remove(key)
    return told


def reached(history, rule):
    """Return the list of the rows of heights behind a history; raise NoNumber if at some time there are too many."""
    if rule[0] == "cap":
        return _reached_by_cap(history, rule[1])
    rows = {(): 1}
    for index, word, place in changes(history):
        if word == "insert":
            limits = _limits(rows, rule)
            # It does not matter in how many ways a row comes.
            rows = _put(rows, limits, {limit: [1] * limit for limit in limits.values()})
        else:
            rows = _taken(rows, place)
    return list(rows)


def tosses_by_step(history, chance, rule):
    """Return the mean number of the coins that a history tosses, by a rule of steps."""
    one = share(chance[0], chance[1])
    rows = {(): 1}
    below = 1
    mean = NOTHING
    for index, word, place in changes(history):
        if word == "insert":
            limits = _limits(rows, rule)
            greatest = max(limits.values())
            mean = plus(mean, _mean_of(rows, limits, one, below))
            rows = _put(rows, limits, {limit: height_weights(one, limit, greatest) for limit in limits.values()})
            below *= to_power(one[1], greatest - 1)
        else:
            rows = _taken(rows, place)
    return mean


def mean_tosses(chance, limit):
    """Return the mean number of coins that are tossed for a tower that may grow to a limit."""
    part, below = share(chance[0], chance[1])
    parts = powers_of(part, limit - 1)
    belows = powers_of(below, limit - 1)
    # Each coin but the first one is tossed if all before it were 1.
    sums = sum([parts[at] * belows[limit - 1 - at] for at in range(limit - 1)])
    return share(sums, belows[limit - 1])


def _reached_by_cap(history, cap):
    """Return what reached returns by a cap."""
    many = 0
    for index, word, place in changes(history):
        many += 1 if word == "insert" else -1
        if to_power(cap, many) > MOST_TOWERS:
            raise NoNumber(MOST_TOWERS)
    rows = [()]
    for _ in range(many):
        rows = [row + (height,) for row in rows for height in range(1, cap + 1)]
    return rows


def _limits(rows, rule):
    """Return the dict from each row to how far a tower may grow that is put in next."""
    return {row: limit_of(rule, max(row, default=0)) for row in rows}


def _put(rows, limits, weights):
    """Return the rows with one more tower, by a dict from limits to the weights of the heights up to them."""
    grown = {}
    for row, count in rows.items():
        for height, weight in enumerate(weights[limits[row]], start=1):
            grown[row + (height,)] = count * weight
        check_most(grown)
    return grown


def _taken(rows, place):
    """Return the rows without the tower at a place."""
    left = {}
    for row, count in rows.items():
        rest = row[:place] + row[place + 1:]
        left[rest] = left.get(rest, 0) + count
    return left


def _mean_of(rows, limits, chance, below):
    """Return the mean number of coins that are tossed for a tower that is put in next."""
    counts = {}
    for row, limit in limits.items():
        counts[limit] = counts.get(limit, 0) + rows[row]
    mean = NOTHING
    for limit, count in counts.items():
        mean = plus(mean, times(share(count, below), mean_tosses(chance, limit)))
    return mean
