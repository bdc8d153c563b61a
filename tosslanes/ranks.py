"""Ranks: the spans of links, keys by their rank, and the keys between two bounds."""

from tosslanes.checks import check_key, check_number
from tosslanes.errors import NoNumber
from tosslanes.searches import cost_in, next_place
from tosslanes.towers import check_towers, count_below, links, tallest


def spans(towers):
    """Return the list of (key, level, span) for all links."""
    check_towers(towers)
    places = _places(towers)
    end = len(towers) + 1
    return [
        (key, level, places.get(other, end) - places.get(key, 0)) for key, level, other in links(towers)
    ]


def rank(towers, key):
    """Return (rank, rights): how many keys are less than a key, and the moves to the right of a plain search."""
    check_towers(towers)
    check_key(key)
    return count_below(towers, key), cost_in(towers, key, "plain")[0]


def nth(towers, index):
    """Return (key, cost) for the key with a rank; the cost is (rights, downs, looks)."""
    check_towers(towers)
    check_number(index, 0)
    if index >= len(towers):
        raise NoNumber(index)
    level = tallest(towers)
    rights = 0
    downs = 0
    place = 0
    while place < index + 1:
        ahead = next_place(towers, place, level) + 1
        if ahead <= index + 1:
            rights += 1
            place = ahead
        else:
            downs += 1
            level -= 1
    # Each look leads to the right or down.
    return towers[index][0], (rights, downs, rights + downs)


def changed_spans(one, other):
    """Return the list of (key, level, old, new) for the links whose span differs; None: the link is not there."""
    olds = _spans_by_link(one)
    news = _spans_by_link(other)
    changed = [(link[0], link[1], olds.get(link), news[link]) for link in news if olds.get(link) != news[link]]
    gone = [(link[0], link[1], olds[link], None) for link in olds if link not in news]
    return changed + gone


def between(towers, low, high):
    """Return (keys, cost): the list of the keys from low to high, and the cost of finding them."""
    check_towers(towers)
    check_key(low)
    check_key(high)
    rights, downs, compares = cost_in(towers, low, "plain")
    behind = [key for key, height in towers if key >= low]
    keys = [key for key in behind if key <= high]
    # The first key behind the range, if there is one, is compared with high; it takes the place of the last look.
    if behind and len(keys) == len(behind):
        compares -= 1
    return keys, (rights + len(keys), downs, compares + len(keys))


def ranked(towers, first, last):
    """Return the list of the keys with the ranks from first to last, last left out."""
    check_towers(towers)
    check_number(first, 0, len(towers))
    check_number(last, first, len(towers))
    return [key for key, height in towers[first:last]]


def _places(towers):
    """Return the dict from each key to its place: its rank and 1, as the head has the place 0."""
    return {key: index + 1 for index, (key, height) in enumerate(towers)}


def _spans_by_link(towers):
    """Return the dict from (key, level) to the span of this link, in the order of the links."""
    return {(key, level): span for key, level, span in spans(towers)}
