"""Joins: rows of towers put together and taken apart, with all keys keeping their towers."""

from tosslanes.checks import check_key
from tosslanes.errors import NoJoin
from tosslanes.towers import as_tuples, check_towers, count_below, tallest


def joined(one, other):
    """Return both rows in one, if all keys of the first one are less than those of the second one."""
    _check_join(one, other)
    return as_tuples(one) + as_tuples(other)


def split(towers, key):
    """Return (less, rest): the towers below a key, and the others."""
    check_towers(towers)
    check_key(key)
    place = count_below(towers, key)
    return as_tuples(towers[:place]), as_tuples(towers[place:])


def cut_out(towers, low, high):
    """Return the towers without the keys from low to high."""
    check_towers(towers)
    check_key(low)
    check_key(high)
    return as_tuples([pair for pair in towers if not low <= pair[0] <= high])


def union(one, other):
    """Return all keys of both; a key of both has its tower of the first one."""
    _check_two(one, other)
    heights = dict(as_tuples(other))
    for key, height in one:
        heights[key] = height
    return tuple([(key, heights[key]) for key in sorted(heights)])


def both(one, other):
    """Return the keys that are in both, with their towers of the first one."""
    _check_two(one, other)
    there = dict(as_tuples(other))
    return as_tuples([pair for pair in one if pair[0] in there])


def less(one, other):
    """Return the keys of the first one that are not in the second one."""
    _check_two(one, other)
    there = dict(as_tuples(other))
    return as_tuples([pair for pair in one if pair[0] not in there])


def join_cost(one, other):
    """Return how many links of both rows joined are links of neither."""
    _check_join(one, other)
    # Such a link leads from one row to the other, in each lane that both have.
    return min(tallest(one), tallest(other))


def split_cost(towers, key):
    """Return how many links of the towers are links of neither part."""
    one, other = split(towers, key)
    return min(tallest(one), tallest(other))


def merge_steps(one, other):
    """Return the tuple of (side, key) for the keys of both, in order; the side is "one", "other" or "both"."""
    _check_two(one, other)
    sides = {key: "other" for key, height in other}
    for key, height in one:
        sides[key] = "both" if key in sides else "one"
    return tuple([(sides[key], key) for key in sorted(sides)])


def _check_two(one, other):
    """Raise NoTowers for the first row, then for the second one."""
    check_towers(one)
    check_towers(other)


def _check_join(one, other):
    """Raise NoTowers, or NoJoin if not all keys of the first row are less than those of the second one."""
    _check_two(one, other)
    if one and other and one[-1][0] >= other[0][0]:
        raise NoJoin()
