"""Towers: rows of pairs (key, height), with their lanes and their links."""

from tosslanes.checks import check_key, check_new_keys, check_number, is_row, is_whole
from tosslanes.errors import NoTowers


def is_towers(thing):
    """Return whether an object is towers."""
    return wrong_tower(thing) is None


def top(towers):
    """Return the greatest height, 0 if there is no key."""
    check_towers(towers)
    return tallest(towers)


def heights(towers):
    """Return the tuple of the heights, in the order of the keys."""
    check_towers(towers)
    return tuple([height for key, height in towers])


def height_of(towers, key):
    """Return the height of a key, 0 if it is not there."""
    check_towers(towers)
    check_key(key)
    for other, height in towers:
        if other == key:
            return height
    return 0


def lane(towers, level):
    """Return the list of the keys whose height is at least the level."""
    check_towers(towers)
    check_number(level, 1)
    return [key for key, height in towers if height >= level]


def next_key(towers, key, level):
    """Return the first key of a lane that is greater than the key (None: the head), or None at its end."""
    check_towers(towers)
    if key is not None:
        check_key(key)
    check_number(level, 1)
    for other, height in towers:
        if height >= level and (key is None or other > key):
            return other
    return None


def links(towers):
    """Return the list of all links (key, level, key of the next one): first the head's, then each tower's."""
    # From the last tower back to the head, so that each lane's next key is known at once.
    following = [None] * top(towers)
    parts = []
    for key, height in reversed(towers):
        parts.append(_links_from(key, following[:height]))
        following[:height] = [key] * height
    parts.append(_links_from(None, following))
    return [link for part in reversed(parts) for link in part]


def lifted(towers):
    """Return what stands above lane 1: the keys of lane 2, each one lower."""
    check_towers(towers)
    return tuple([(key, height - 1) for key, height in towers if height > 1])


def laid(towers, keys):
    """Return the towers, each one higher, with the keys of a row, in any order, put in at height 1."""
    check_towers(towers)
    check_new_keys(keys, [key for key, height in towers])
    raised = [(key, height + 1) for key, height in towers]
    return tuple(sorted(raised + [(key, 1) for key in keys]))


def check_towers(towers):
    """Raise NoTowers, with the first element that is wrong, if an object is not towers."""
    index = wrong_tower(towers)
    if index is not None:
        raise NoTowers(index)


def wrong_tower(thing):
    """Return the index of the first wrong element of towers, -1 if there is no row, None if nothing is wrong."""
    if not is_row(thing):
        return -1
    for index, pair in enumerate(thing):
        if not _is_pair(pair):
            return index
        if index > 0 and pair[0] <= thing[index - 1][0]:
            return index
    return None


def tallest(towers):
    """Return what top returns, for towers that are known to be right."""
    return max([height for key, height in towers], default=0)


def as_tuples(towers):
    """Return towers as a tuple of tuples."""
    return tuple([(key, height) for key, height in towers])


def count_below(towers, key):
    """Return how many keys of towers are less than a key: the index at which it stands, or would stand."""
    low = 0
    high = len(towers)
    while low < high:
        middle = (low + high) // 2
        if towers[middle][0] < key:
            low = middle + 1
        else:
            high = middle
    return low


def _is_pair(thing):
    """Return whether an object is a pair (key, height)."""
    if not is_row(thing) or len(thing) != 2:
        return False
    key, height = thing
    return is_whole(key) and is_whole(height) and height >= 1


def _links_from(key, following):
    """Return the links of a key, from lane 1 up, to the keys that follow it in these lanes."""
    return [(key, level, other) for level, other in enumerate(following, start=1)]
