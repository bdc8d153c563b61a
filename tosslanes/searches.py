"""Searches for keys in towers: their steps and costs, in four manners, and the records behind the costs."""

from tosslanes.checks import check_key, check_number
from tosslanes.coins import GREATEST_LIMIT, check_heights
from tosslanes.counts import cost_counts
from tosslanes.errors import NoManner
from tosslanes.towers import check_towers, count_below, tallest

MANNERS = ("plain", "lean", "early", "sharp")
# In these a comparison tells less, equal or greater.
THREE_WAY = ("early", "sharp")
# In these a key at which the lane above was left is not compared again.
SKIPPING = ("lean", "sharp")


def steps(towers, key, manner, begin=None):
    """Return the list of the steps of a search, which begins in the top lane or in the lane `begin`."""
    _check_search(towers, key, manner, begin)
    return steps_from(towers, key, manner, 0, tallest(towers) if begin is None else begin)


def cost(towers, key, manner, begin=None):
    """Return the cost (rights, downs, compares) of a search."""
    _check_search(towers, key, manner, begin)
    return cost_in(towers, key, manner, begin)


def is_in(towers, key):
    """Return whether a key is there."""
    _check_place(towers, key)
    return has_key(towers, key)


def before(towers, key):
    """Return the list of the greatest keys that are less than a key, in the lanes from 1 up (None: the head)."""
    _check_place(towers, key)
    return lasts_before(towers, key)


def total(towers, manner):
    """Return the sum of the comparisons of searches for all keys."""
    check_towers(towers)
    check_manner(manner)
    return sum([cost_in(towers, key, manner)[2] for key, height in towers])


def records(heights):
    """Return (weak, strict): how many weak and how many strict records a row of heights has."""
    check_heights(heights)
    return len(weak_records(heights, 1)), strict_records(heights)


def ways(many, index, cap, manner):
    """Return the dict from each number of comparisons to how many rows of heights up to the cap lead to it."""
    check_number(many, 1, 60)
    check_number(index, 0, many - 1)
    check_number(cap, 1, 12)
    check_manner(manner)
    counts = cost_counts([1] * cap, index, many - 1 - index, manner)
    return {compares: count for compares, count in enumerate(counts) if count > 0}


def is_manner(thing):
    """Return whether an object is a manner."""
    return isinstance(thing, str) and thing in MANNERS


def check_manner(manner):
    """Raise NoManner if an object is no manner."""
    if not is_manner(manner):
        raise NoManner()


def has_key(towers, key):
    """Return what is_in returns, for arguments that are right."""
    at = count_below(towers, key)
    return at < len(towers) and towers[at][0] == key


def lasts_before(towers, key):
    """Return what before returns, for arguments that are right."""
    lasts = [None] * tallest(towers)
    for other, height in towers[:count_below(towers, key)]:
        lasts[:height] = [other] * height
    return lasts


def steps_from(towers, key, manner, at, level):
    """Return the list of the steps of a search from a place (as many keys are up to it) in a lane."""
    told = []
    left_at = None
    while level > 0:
        ahead = next_place(towers, at, level)
        other = towers[ahead][0] if ahead < len(towers) else None
        step = _step(level, other, key, manner, left_at)
        told.append(step)
        if step[0] == "found":
            return told
        if step[0] == "right":
            at = ahead + 1
        else:
            left_at = other
            level -= 1
    if manner not in THREE_WAY and at < len(towers):
        told.append(("look", towers[at][0]))
    return told


def next_place(towers, at, level):
    """Return the index of the first tower of a lane from a place on, the number of towers if there is none."""
    while at < len(towers) and towers[at][1] < level:
        at += 1
    return at


def cost_in(towers, key, manner, begin=None):
    """Return what cost returns, for arguments that are right, by the records of the heights."""
    heights = [height for other, height in towers]
    if begin is not None:
        heights = [min(height, begin) for height in heights]
    lanes = max(heights, default=0) if begin is None else begin
    place = count_below(towers, key)
    left = heights[:place][::-1]
    right = heights[place:]
    least = 1
    if manner in THREE_WAY and right and towers[place][0] == key:
        least = right[0]
    rights = len(weak_records(left, least))
    stops = strict_records(right) if manner in SKIPPING else max(right, default=0)
    # A search that finds its key in a higher lane does not stop ahead of it in the lanes below.
    if manner == "early":
        stops -= least - 1
    if manner not in THREE_WAY and right:
        stops += 1
    return rights, max(lanes - least, 0), rights + stops


def weak_records(heights, least):
    """Return the list of the heights that are at least the least one, and exceeded by no height before them."""
    found = []
    greatest = least
    for height in heights:
        if height >= greatest:
            found.append(height)
            greatest = height
    return found


def strict_records(heights):
    """Return how many heights exceed all heights before them."""
    many = 0
    greatest = 0
    for height in heights:
        if height > greatest:
            many += 1
            greatest = height
    return many


def _check_place(towers, key):
    """Raise NoTowers or NoKey."""
    check_towers(towers)
    check_key(key)


def _check_search(towers, key, manner, begin):
    """Raise the errors of a search, in their order."""
    _check_place(towers, key)
    check_manner(manner)
    if begin is not None:
        check_number(begin, 1, GREATEST_LIMIT)


def _step(level, other, key, manner, left_at):
    """Return the step that a search makes in a lane with this next key, the lane above having been left at one."""
    if other is None:
        return ("end", level)
    if other < key:
        return ("right", level, other)
    if manner in SKIPPING and other == left_at:
        return ("same", level, other)
    if manner in THREE_WAY and other == key:
        return ("found", level, key)
    return ("stop", level, other)
