"""Reaches: the rows of heights that keys can have behind a history, by a finite rule, and the coins that it tosses."""

from tosslanes.coins import limit_of
from tosslanes.errors import NoNumber
from tosslanes.lots import MOST_TOWERS, check_most
from tosslanes.shares import powers_of, share, to_power


def changes(history):
    """Return the list of (index, word, place) of the deeds of a history that put a key in, or take one out.

    The place is that of the key among those that are there, in the order in which they were put in.
    """
    told = []
    keys = []
    for index, (word, key) in enumerate(history):
        if word == "insert" and key not in keys:
            told.append((index, word, len(keys)))
            keys.append(key)
        elif word == "remove" and key in keys:
            told.append((index, word, keys.index(key)))
            keys.remove(key)
    return told


def reached(history, rule):
    """Return the list of the rows of heights behind a history, in the order in which the keys were put in.

    It raises NoNumber if at some time there are too many.
    """
    if rule[0] == "cap":
        return _reached_by_cap(history, rule[1])
    # Long histories come to the same rows again and again: what a change makes of them is kept.
    known = [{(): True}]
    behind = {}
    at = 0
    for index, word, place in changes(history):
        change = (at, word, place)
        if change not in behind:
            rows = _put(known[at], rule) if word == "insert" else _taken(known[at], place)
            if rows not in known:
                known.append(rows)
            behind[change] = known.index(rows)
        at = behind[change]
    return list(known[at])


def tosses_by_step(history, chance, rule):
    """Return the mean number of the coins that a history tosses, by a rule of steps."""
    one = share(chance[0], chance[1])
    ends = _ends(history)
    # When the keys go, the next one first. A row tells for each of these times the greatest height of the keys that
    # stay at least as long: the top now, and whenever some have gone. What goes at one time need not be told apart.
    leaving = [len(ends)]
    rows = {(0,): 1}
    below = 1
    total = 0
    for many, end in enumerate(ends):
        limits = {row: limit_of(rule, row[0]) for row in rows}
        greatest = max(limits.values())
        factor = to_power(one[1], greatest - 1)
        sums = _toss_sums(one, greatest)
        total = total * factor + sum([count * sums[limits[row]] for row, count in rows.items()])
        below *= factor
        # What goes ahead of the next insertion does not matter any more, also if it is the new key.
        gone = len([other for other in leaving if other <= many + 1])
        leaving = leaving[gone:]
        groups = _grouped(rows, limits, gone)
        if end <= many + 1:
            rows = {row: sum(counts.values()) * factor for row, counts in groups.items()}
        else:
            at = len([other for other in leaving if other < end])
            rest = at + 1 if leaving[at] == end else at
            rows = _raised(groups, one, greatest, at, rest)
            if rest == at:
                leaving.insert(at, end)
    return share(total, below)


def mean_tosses(chance, limit):
    """Return the mean number of coins that are tossed for a tower that may grow to a limit."""
    one = share(chance[0], chance[1])
    return share(_toss_sums(one, limit)[limit], to_power(one[1], limit - 1))


def _reached_by_cap(history, cap):
    """Return what reached returns by a cap."""
    many = 0
    for index, word, place in changes(history):
        many += 1 if word == "insert" else -1
        if to_power(cap, many) > MOST_TOWERS:
            raise NoNumber(MOST_TOWERS)
    rows = [()]
    for _ in range(many):
        rows = [row + (height,) for row in rows for height in range(1, cap + 1)]
    return rows


def _put(rows, rule):
    """Return the dict of the rows with one more tower."""
    grown = {}
    for row in rows:
        for height in range(1, limit_of(rule, max(row, default=0)) + 1):
            grown[row + (height,)] = True
        check_most(grown)
    return grown


def _taken(rows, place):
    """Return the dict of the rows without the tower at a place."""
    return {row[:place] + row[place + 1:]: True for row in rows}


def _ends(history):
    """Return for each insertion that puts a key in how many of these stand ahead of the deed that removes it.

    If no deed removes it these are all.
    """
    ends = []
    begun = {}
    for index, word, place in changes(history):
        key = history[index][1]
        if word == "insert":
            begun[key] = len(ends)
            ends.append(None)
        else:
            ends[begun[key]] = len(ends)
    return [len(ends) if end is None else end for end in ends]


def _toss_sums(chance, greatest):
    """Return, by the limit, the mean numbers of coins for a tower, times below ** (greatest - 1)."""
    part, below = chance
    parts = powers_of(part, greatest)
    belows = powers_of(below, greatest)
    sums = [0, 0]
    # Each coin but the first one is tossed if all before it were 1.
    for tossed in range(greatest - 1):
        sums.append(sums[-1] + parts[tossed] * belows[greatest - 1 - tossed])
    return sums


def _grouped(rows, limits, gone):
    """Return the dict from rows without their first parts to dicts from limits to sums of counts."""
    groups = {}
    for row, count in rows.items():
        counts = groups.setdefault(row[gone:], {})
        counts[limits[row]] = counts.get(limits[row], 0) + count
    return groups


def _raised(groups, chance, greatest, at, rest):
    """Return the rows with one more tower, which is told at a place; what is told behind it begins at `rest`."""
    part, below = chance
    parts = powers_of(part, greatest)
    belows = powers_of(below, greatest)
    rows = {}
    for row, counts in groups.items():
        higher = 0
        for height in range(greatest, 0, -1):
            # By a higher limit the tower ends with a coin, otherwise without one.
            count = counts.get(height, 0) * parts[height - 1] * belows[greatest - height]
            if higher > 0:
                count += higher * (below - part) * parts[height - 1] * belows[greatest - 1 - height]
            higher += counts.get(height, 0)
            raised = tuple([max(tall, height) for tall in row[:at + 1]]) + row[rest:]
            rows[raised] = rows.get(raised, 0) + count
    return {row: count for row, count in rows.items() if count > 0}
