"""Looks: what is known of towers that nobody sees, by how many comparisons searches in them need."""

from itertools import combinations

from tosslanes.checks import check_key, check_new_keys, check_number, first_wrong, is_row, is_whole
from tosslanes.coins import check_chance
from tosslanes.errors import Never, NoKeys, NoSeeks, NoSeen
from tosslanes.lots import height_weights
from tosslanes.searches import check_manner, cost_in
from tosslanes.shares import NOTHING, is_less, share, to_power

MOST_KEYS = 6
MOST_SEEKS = 9
GREATEST_CAP = 5
MOST_TOWERS = 1024


def left(keys, seen, manner, cap):
    """Return the sorted list of the towers in which all searches that were seen need so many comparisons."""
    _check_keys(keys)
    _check_seen(seen)
    check_manner(manner)
    _check_cap(keys, cap)
    return _left(keys, seen, manner, cap)


def behind(keys, seen, manner, chance, cap):
    """Return the dict from these towers to their chances when this was seen, sorted by towers."""
    _check_keys(keys)
    _check_seen(seen)
    _check_lots(keys, manner, chance, cap)
    weights = _weighed(keys, seen, manner, chance, cap)
    total = sum(weights.values())
    return {towers: share(weight, total) for towers, weight in weights.items()}


def answers(keys, seen, key, manner, chance, cap):
    """Return the dict from each number of comparisons that a search can need, rising, to its chance."""
    _check_search(keys, seen, key, manner, chance, cap)
    weights = _weighed(keys, seen, manner, chance, cap)
    counts = {}
    for towers, weight in weights.items():
        compares = cost_in(towers, key, manner)[2]
        counts[compares] = counts.get(compares, 0) + weight
    total = sum(counts.values())
    return {compares: share(counts[compares], total) for compares in sorted(counts)}


def named(keys, seen, key, manner, chance, cap):
    """Return the chance to name the towers right behind one search more."""
    _check_search(keys, seen, key, manner, chance, cap)
    return _named(_weighed(keys, seen, manner, chance, cap), key, manner)


def next_seek(keys, seen, seeks, manner, chance, cap):
    """Return (seek, chance): the first one of some seeks for which the chance to name the towers is greatest."""
    _check_keys(keys)
    _check_seen(seen)
    _check_seeks(seeks)
    _check_lots(keys, manner, chance, cap)
    weights = _weighed(keys, seen, manner, chance, cap)
    best = (None, NOTHING)
    for seek in seeks:
        found = _named(weights, seek, manner)
        if is_less(best[1], found):
            best = (seek, found)
    return best


def untold(keys, seeks, manner, cap):
    """Return the sorted list of the groups, at least two towers each, that no seek tells from one another."""
    _check_seek_rows(keys, seeks, manner, cap)
    groups = {}
    for towers, row in _rows(keys, seeks, manner, cap):
        groups.setdefault(row, []).append(towers)
    return sorted([group for group in groups.values() if len(group) > 1])


def telling(keys, seeks, manner, cap):
    """Return the sorted list of the smallest sets of seeks, told by their indexes, that tell as much as all."""
    _check_seek_rows(keys, seeks, manner, cap)
    rows = [row for towers, row in _rows(keys, seeks, manner, cap)]
    # Fewer seeks tell just as much if they leave as many groups.
    many = len(set(rows))
    found = []
    for size in range(len(seeks) + 1):
        for chosen in combinations(range(len(seeks)), size):
            if len({tuple([row[at] for at in chosen]) for row in rows}) == many:
                found.append(chosen)
        if found:
            break
    return found


def _check_keys(keys):
    """Raise NoKeys, with the first element that is wrong, or -1."""
    check_new_keys(keys, [])
    if not 1 <= len(keys) <= MOST_KEYS:
        raise NoKeys(-1)


def _check_seen(seen):
    """Raise NoSeen, with the first element that is wrong, if an object is not what can be seen."""
    index = first_wrong(seen, _is_look)
    if index is not None:
        raise NoSeen(index)


def _is_look(thing):
    """Return whether an object is a pair of integers."""
    return is_row(thing) and len(thing) == 2 and is_whole(thing[0]) and is_whole(thing[1])


def _check_seeks(seeks):
    """Raise NoSeeks, with the first element that is wrong, or -1."""
    if not is_row(seeks):
        raise NoSeeks(-1)
    taken = set()
    for index, seek in enumerate(seeks):
        if not is_whole(seek) or seek in taken:
            raise NoSeeks(index)
        taken.add(seek)
    if not 1 <= len(seeks) <= MOST_SEEKS:
        raise NoSeeks(-1)


def _check_cap(keys, cap):
    """Raise NoNumber, or NoKeys if there are too many towers of the keys."""
    check_number(cap, 1, GREATEST_CAP)
    if to_power(cap, len(keys)) > MOST_TOWERS:
        raise NoKeys(-1)


def _check_lots(keys, manner, chance, cap):
    """Raise NoManner, NoChance, NoNumber or NoKeys."""
    check_manner(manner)
    check_chance(chance)
    _check_cap(keys, cap)


def _check_search(keys, seen, key, manner, chance, cap):
    """Raise the errors of one search more, in their order."""
    _check_keys(keys)
    _check_seen(seen)
    check_key(key)
    _check_lots(keys, manner, chance, cap)


def _check_seek_rows(keys, seeks, manner, cap):
    """Raise the errors of what some seeks tell, in their order."""
    _check_keys(keys)
    _check_seeks(seeks)
    check_manner(manner)
    _check_cap(keys, cap)


def _all_towers(keys, cap):
    """Return the sorted list of all towers of the keys."""
    rows = [()]
    for key in sorted(keys):
        rows = [row + ((key, height),) for row in rows for height in range(1, cap + 1)]
    return rows


def _left(keys, seen, manner, cap):
    """Return what left returns, for arguments that are right."""
    # Searches for what lies at the same place need the same comparisons: one of them tells all.
    looks = {}
    for key, compares in seen:
        looks[(len([other for other in keys if other < key]), key in keys, compares)] = key
    rows = _all_towers(keys, cap)
    for (place, is_there, compares), key in looks.items():
        rows = [towers for towers in rows if cost_in(towers, key, manner)[2] == compares]
    return rows


def _weighed(keys, seen, manner, chance, cap):
    """Return the dict from the towers that are left to the weights of their heights; raise Never if there are none."""
    weights = height_weights(share(chance[0], chance[1]), cap, cap)
    weighed = {}
    for towers in _left(keys, seen, manner, cap):
        weight = 1
        for key, height in towers:
            weight *= weights[height - 1]
        weighed[towers] = weight
    if not weighed:
        raise Never()
    return weighed


def _named(weights, key, manner):
    """Return the chance to name the towers right behind a search for a key, by the weights of all that are left."""
    greatest = {}
    for towers, weight in weights.items():
        compares = cost_in(towers, key, manner)[2]
        greatest[compares] = max(greatest.get(compares, 0), weight)
    return share(sum(greatest.values()), sum(weights.values()))


def _rows(keys, seeks, manner, cap):
    """Return the list of (towers, tuple of the comparisons of all seeks), sorted by towers."""
    return [
        (towers, tuple([cost_in(towers, seek, manner)[2] for seek in seeks])) for towers in _all_towers(keys, cap)
    ]
