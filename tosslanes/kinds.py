"""Kinds of towers with fixed gaps, which need no coins: gapped ones, their trees, and perfect ones."""

from tosslanes.checks import check_key, check_new_keys, check_number, is_row, is_whole
from tosslanes.deeds import with_tower, without_key
from tosslanes.errors import NoGaps, NoKey, NoTree
from tosslanes.searches import has_key
from tosslanes.shares import folded, to_power
from tosslanes.towers import check_towers, count_below, tallest

LEAST_GAP = 1
GREATEST_GAP = 3
GREATEST_BOUND = 20


def gaps(towers, level):
    """Return the list of the gaps of a lane, from left to right."""
    check_towers(towers)
    check_number(level, 1)
    return _gaps(towers, level)


def is_gapped(towers, least, most):
    """Return whether all gaps of the lanes up to the top are from the least to the greatest number."""
    check_towers(towers)
    _check_bounds(least, most)
    return _is_gapped(towers, least, most)


def gapped_sizes(top, least, most):
    """Return (fewest, most) keys that gapped towers with this top can have."""
    check_number(top, 0, 12)
    _check_bounds(least, most)
    return to_power(least + 1, top) - 1, to_power(most + 1, top) - 1


def gapped_count(many, least, most):
    """Return how many rows of heights of so many keys are gapped."""
    check_number(many, 0, 200)
    _check_bounds(least, most)
    powers = _powers([0] * least + [1] * (most - least + 1), many)
    # By the number of keys, the rows with a top; the gaps of lane 1 lie between the keys of lane 2.
    rows = [1] + [0] * many
    count = 0
    while any([number > 0 for number in rows]):
        count += rows[many]
        rows = _one_lane_more(rows, powers)
    return count


def put_gapped(towers, key):
    """Return towers that are gapped from 1 to 3 with a key put in, from above."""
    _check_gaps(towers)
    check_key(key)
    if has_key(towers, key):
        raise NoKey(key)
    heights = [height for other, height in towers]
    place = count_below(towers, key)
    # Above the top lane one is between the head and the end.
    for level in range(tallest(towers), 0, -1):
        gap = _gap_around(heights, place, level)
        if len(gap) == GREATEST_GAP:
            heights[gap[1]] = level + 1
    return with_tower(_with_heights(towers, heights), key, 1)


def out_gapped(towers, key):
    """Return towers that are gapped from 1 to 3 without a key that is there."""
    _check_gaps(towers)
    check_key(key)
    if not has_key(towers, key):
        raise NoKey(key)
    place = count_below(towers, key)
    heights = [height for other, height in towers]
    if heights[place] > 1:
        heights[place - 1] = heights[place]
    rows = without_key(_with_heights(towers, heights), key)
    heights = [height for other, height in rows]
    level = 1
    while _fill_gap(heights, level):
        level += 1
    return _with_heights(rows, heights)


def branches(towers):
    """Return the tree of towers that are gapped from 1 to 3: None, or a tuple (keys, parts)."""
    _check_gaps(towers)
    if not towers:
        return None
    return _branches(towers, tallest(towers))


def from_branches(tree):
    """Return the towers of a tree with two to four branches."""
    if tree is None:
        return ()
    depths = {}
    depth = 0
    # Lane by lane from above, as what is nested deep cannot be gone through by calls in one another.
    nodes = [(tree, None, None)]
    while nodes:
        if not all([_is_node(node, low, high) for node, low, high in nodes]):
            raise NoTree()
        sizes = [len(node[1]) for node, low, high in nodes]
        if min(sizes) == 0 and max(sizes) > 0:
            raise NoTree()
        for node, low, high in nodes:
            for key in node[0]:
                depths[key] = depth
        depth += 1
        nodes = [part for node, low, high in nodes for part in _parts(node, low, high)]
    return tuple([(key, depth - depths[key]) for key in sorted(depths)])


def perfect(keys):
    """Return the towers of the keys of a row, sorted, whose heights tell how often 2 divides their places."""
    check_new_keys(keys, [])
    return tuple([(key, _perfect_height(rank)) for rank, key in enumerate(sorted(keys))])


def is_perfect(towers):
    """Return whether towers are perfect."""
    check_towers(towers)
    return all([height == _perfect_height(rank) for rank, (key, height) in enumerate(towers)])


def _check_bounds(least, most):
    """Raise NoNumber for the first of the least and the greatest gap that is none."""
    check_number(least, 1, GREATEST_BOUND)
    check_number(most, least, GREATEST_BOUND)


def _check_gaps(towers):
    """Raise NoTowers, or NoGaps if towers are not gapped from 1 to 3."""
    check_towers(towers)
    if not _is_gapped(towers, LEAST_GAP, GREATEST_GAP):
        raise NoGaps()


def _gaps(towers, level):
    """Return what gaps returns, for arguments that are right."""
    found = []
    gap = 0
    for key, height in towers:
        if height > level:
            found.append(gap)
            gap = 0
        elif height == level:
            gap += 1
    return found + [gap]


def _is_gapped(towers, least, most):
    """Return what is_gapped returns, for arguments that are right."""
    for level in range(1, tallest(towers) + 1):
        found = _gaps(towers, level)
        if min(found) < least or max(found) > most:
            return False
    return True


def _powers(row, many):
    """Return the powers of a polynomial, from 1 up, as far as all numbers up to `many` want them."""
    powers = [row[:many + 1]]
    while 2 * len(powers) <= many:
        powers.append(folded(powers[-1], row)[:many + 1])
    return powers


def _one_lane_more(rows, powers):
    """Return how many rows of heights there are, by the number of keys, with one lane more laid below."""
    found = [0] * len(rows)
    for keys, count in enumerate(rows):
        if count > 0 and keys < len(powers):
            # One gap more than there are keys in the lane above.
            for others, ways in enumerate(powers[keys][:len(rows) - keys]):
                found[keys + others] += count * ways
    return found


def _with_heights(towers, heights):
    """Return the keys of towers with other heights."""
    return tuple([(pair[0], height) for pair, height in zip(towers, heights)])


def _gap_between(heights, low, high, level):
    """Return the indexes of the heights that are just the level, between two indexes."""
    return [at for at in range(low + 1, high) if heights[at] == level]


def _gap_around(heights, place, level):
    """Return the indexes of the heights that are just the level, in the gap in which a place lies."""
    low = place - 1
    while low >= 0 and heights[low] <= level:
        low -= 1
    high = place
    while high < len(heights) and heights[high] <= level:
        high += 1
    return _gap_between(heights, low, high, level)


def _fill_gap(heights, level):
    """Fill the gap of a lane that is 0, if there is one; return whether there was one that was filled."""
    ends = [-1] + [at for at, height in enumerate(heights) if height > level] + [len(heights)]
    for at in range(len(ends) - 1):
        if not _gap_between(heights, ends[at], ends[at + 1], level):
            return _lower_behind(heights, ends, at + 1, level) or _lower_ahead(heights, ends, at, level)
    return False


def _lower_behind(heights, ends, at, level):
    """Lower the key behind an empty gap, and raise one of the gap behind it; return whether this could be done."""
    if at == len(ends) - 1 or heights[ends[at]] != level + 1:
        return False
    gap = _gap_between(heights, ends[at], ends[at + 1], level)
    heights[ends[at]] = level
    if len(gap) > 1:
        heights[gap[0]] = level + 1
    return True


def _lower_ahead(heights, ends, at, level):
    """Lower the key ahead of an empty gap, and raise one of the gap ahead of it; return whether this could be done."""
    if at == 0 or heights[ends[at]] != level + 1:
        return False
    gap = _gap_between(heights, ends[at - 1], ends[at], level)
    heights[ends[at]] = level
    if len(gap) > 1:
        heights[gap[-1]] = level + 1
    return True


def _branches(towers, level):
    """Return the tree of what stands in lanes up to a level, of which some keys are in this lane."""
    keys = [key for key, height in towers if height == level]
    if level == 1:
        return tuple(keys), ()
    parts = []
    start = 0
    for at, (key, height) in enumerate(towers):
        if height == level:
            parts.append(_branches(towers[start:at], level - 1))
            start = at + 1
    parts.append(_branches(towers[start:], level - 1))
    return tuple(keys), tuple(parts)


def _is_node(thing, low, high):
    """Return whether an object has the form of a node, with keys between two bounds (None: without one)."""
    if not is_row(thing) or len(thing) != 2 or not is_row(thing[0]) or not is_row(thing[1]):
        return False
    keys, parts = thing
    if not 1 <= len(keys) <= GREATEST_GAP or len(parts) not in (0, len(keys) + 1):
        return False
    last = low
    for key in keys:
        if not is_whole(key) or (last is not None and key <= last):
            return False
        last = key
    return high is None or last < high


def _parts(node, low, high):
    """Return the parts of a node, each with the bounds of its keys."""
    bounds = [low, *node[0], high]
    return [(part, bounds[at], bounds[at + 1]) for at, part in enumerate(node[1])]


def _perfect_height(rank):
    """Return one more than how often 2 divides the rank and 1."""
    return ((rank + 1) & -(rank + 1)).bit_length()
