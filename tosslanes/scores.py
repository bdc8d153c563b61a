"""Scored rows: items (score, name, height), a skip list whose keys are the pairs (score, name)."""

from tosslanes.checks import check_key, check_number, is_row, is_whole
from tosslanes.errors import NoItems, NoName

LONGEST_NAME = 8


def is_scored(thing):
    """Return whether an object is a scored row."""
    return _wrong_item(thing) is None


def added(items, name, score, height):
    """Return the scored row in which a name has a score, with the height if it has not had this score."""
    _check_items(items)
    _check_name(name)
    check_key(score)
    check_number(height, 1)
    rows = _as_tuples(items)
    if (score, name) in [row[:2] for row in rows]:
        return rows
    others = [row for row in rows if row[1] != name]
    return tuple(sorted(others + [(score, name, height)]))


def dropped(items, name):
    """Return the scored row without a name that is there."""
    _check_items(items)
    if _rank(items, name) is None:
        raise NoName(name)
    return tuple([row for row in _as_tuples(items) if row[1] != name])


def place_of(items, name):
    """Return (rank, rank from behind) of a name, None if it is not there."""
    _check_items(items)
    _check_name(name)
    rank = _rank(items, name)
    if rank is None:
        return None
    return rank, len(items) - 1 - rank


def by_scores(items, low, high):
    """Return the list of the names with scores from low to high, in order."""
    _check_items(items)
    check_key(low)
    check_key(high)
    return [name for score, name, height in items if low <= score <= high]


def by_names(items, score, low, high):
    """Return the list of the names with this score that are from low to high."""
    _check_items(items)
    check_key(score)
    for bound in (low, high):
        if not isinstance(bound, str):
            raise NoName(bound)
    return [name for other, name, height in items if other == score and low <= name <= high]


def as_towers(items):
    """Return the towers with the ranks as keys."""
    _check_items(items)
    return tuple([(rank, height) for rank, (score, name, height) in enumerate(items)])


def _is_name(thing):
    """Return whether an object is a name."""
    if not isinstance(thing, str) or not 1 <= len(thing) <= LONGEST_NAME:
        return False
    return all(["a" <= sign <= "z" for sign in thing])


def _is_item(thing):
    """Return whether an object is an item (score, name, height)."""
    if not is_row(thing) or len(thing) != 3:
        return False
    score, name, height = thing
    return is_whole(score) and _is_name(name) and is_whole(height) and height >= 1


def _wrong_item(thing):
    """Return the index of the first wrong element of a scored row, -1 if there is no row, None if all is right."""
    if not is_row(thing):
        return -1
    names = set()
    for index, item in enumerate(thing):
        if not _is_item(item) or item[1] in names:
            return index
        if index > 0 and tuple(item[:2]) < tuple(thing[index - 1][:2]):
            return index
        names.add(item[1])
    return None


def _check_items(items):
    """Raise NoItems, with the first element that is wrong, if an object is no scored row."""
    index = _wrong_item(items)
    if index is not None:
        raise NoItems(index)


def _check_name(name):
    """Raise NoName if an object is no name."""
    if not _is_name(name):
        raise NoName(name)


def _rank(items, name):
    """Return the index of the item with a name, None if there is none."""
    for rank, item in enumerate(items):
        if item[1] == name:
            return rank
    return None


def _as_tuples(items):
    """Return a scored row as a tuple of tuples."""
    return tuple([(score, name, height) for score, name, height in items])
