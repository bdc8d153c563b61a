"""Fingers: searches that begin near a place, go up as far as they must, and then down as others do."""

from tosslanes.checks import check_key, first_wrong, is_whole
from tosslanes.errors import NoKeys
from tosslanes.searches import next_place, steps_from, weak_records
from tosslanes.towers import check_towers, count_below, tallest


def finger_steps(towers, finger, key):
    """Return the list of the steps of a search for a key from a finger."""
    _check_search(towers, finger, key)
    if key > finger:
        told, at, level = _to_the_right(towers, finger, key)
    else:
        told, at, level = _to_the_left(towers, finger, key)
    return told + steps_from(towers, key, "plain", at, level)


def finger_cost(towers, finger, key):
    """Return the cost (ups, rights, downs, compares) of a search for a key from a finger."""
    _check_search(towers, finger, key)
    return _cost(towers, finger, key)


def walk(towers, keys):
    """Return the list of the costs of searches for the keys of a row, each from the key sought before it."""
    check_towers(towers)
    index = first_wrong(keys, is_whole)
    if index is not None:
        raise NoKeys(index)
    return [_cost(towers, keys[max(at - 1, 0)], key) for at, key in enumerate(keys)]


def _check_search(towers, finger, key):
    """Raise NoTowers or NoKey."""
    check_towers(towers)
    check_key(finger)
    check_key(key)


def _place_before(towers, at, level):
    """Return how many keys are up to the last one of a lane among so many first keys, 0 for the head."""
    while at > 0 and towers[at - 1][1] < level:
        at -= 1
    return at


def _to_the_right(towers, finger, key):
    """Return (steps up, place, lane) where a search for a key that is greater than the finger begins."""
    told = []
    at = count_below(towers, finger)
    level = min(1, tallest(towers))
    while level < tallest(towers):
        ahead = next_place(towers, at, level)
        if ahead == len(towers):
            told.append(("edge", level))
            break
        other = towers[ahead][0]
        if other >= key:
            told.append(("turn", level, other))
            break
        told.append(("up", level, other))
        level += 1
    return told, _place_before(towers, at, level), level


def _to_the_left(towers, finger, key):
    """Return (steps up, place, lane) where a search for a key that is not greater than the finger begins."""
    told = []
    at = count_below(towers, finger)
    for level in range(1, tallest(towers) + 1):
        at = _place_before(towers, at, level)
        if at == 0:
            return told + [("edge", level)], 0, level
        other = towers[at - 1][0]
        if other < key:
            return told + [("turn", level, other)], at, level
        told.append(("up", level, other))
    return told, 0, tallest(towers)


def _cost(towers, finger, key):
    """Return what finger_cost returns, for arguments that are right, by the records of the heights."""
    if not towers:
        return 0, 0, 0, 0
    heights = [height for other, height in towers]
    place = count_below(towers, key)
    start = count_below(towers, finger)
    weak = weak_records(heights[:place][::-1], 1)
    stop = max(heights[place:], default=0)
    tall = max(heights)
    if key > finger:
        passed = heights[start:place]
        ups = min(max(passed, default=0), tall - 1)
        level = ups + 1
        turns = level < tall and stop >= level
        # From the top lane it goes right there, too: what is passed is this high only if it begins there.
        rights = [height for height in weak if height < level] + [height for height in passed if height == tall]
    else:
        ups = max(heights[place:start], default=0)
        level = min(ups + 1, tall)
        turns = ups < tall and max(weak, default=0) >= level
        rights = [height for height in weak if height <= ups]
    # Each move up and to the right compares, and so does each lane whose next key is not less than the one sought.
    compares = ups + len(rights) + min(stop, level)
    if turns:
        compares += 1
    if place < len(towers):
        compares += 1
    return ups, len(rights), level - 1, compares
