"""Towers as trees: the highest tower at the root, of several the first one; what is less left, the rest right."""

from tosslanes.capped import Capped
from tosslanes.checks import check_key, check_number, is_row, is_whole
from tosslanes.chances import check_chance_and_rule
from tosslanes.deeds import with_tower, without_key
from tosslanes.errors import NoKey, NoTree
from tosslanes.searches import has_key
from tosslanes.shares import ALL, NOTHING, minus, plus, power, share, times, to_power
from tosslanes.towers import check_towers

SIZE_OF_TREE = 4
SIZE_OF_SHAPE = 3
GREATEST_CAP = 12


def tree_of(towers):
    """Return the tree of towers."""
    check_towers(towers)
    return _built(towers, True)


def towers_of(tree):
    """Return the towers of a tree."""
    return _towers(_nodes(tree, SIZE_OF_TREE))


def way(tree, key):
    """Return the list of the keys from the root to a key, or to where it would stand."""
    nodes = _nodes(tree, SIZE_OF_TREE)
    check_key(key)
    told = []
    at = 0 if nodes else None
    while at is not None:
        other, height, left, right = nodes[at]
        told.append(other)
        if other == key:
            break
        at = left if key < other else right
    return told


def depth(tree, key):
    """Return how many keys the way to a key has."""
    return len(way(tree, key))


def tree_in(tree, key, height):
    """Return the tree with a key put in."""
    towers = towers_of(tree)
    check_key(key)
    if has_key(towers, key):
        raise NoKey(key)
    check_number(height, 1)
    # The tree of towers is but one: what is parted below the new key, and how, is told by the towers.
    return _built(with_tower(towers, key, height), True)


def tree_out(tree, key):
    """Return the tree without a key that is there."""
    towers = towers_of(tree)
    check_key(key)
    if not has_key(towers, key):
        raise NoKey(key)
    return _built(without_key(towers, key), True)


def shape(tree):
    """Return the tree without heights."""
    return _built(towers_of(tree), False)


def least_towers(shape):
    """Return the towers of a shape in which each height is as low as it can be."""
    nodes = _nodes(shape, SIZE_OF_SHAPE)
    # From behind, as a node stands ahead of those in it.
    for at in range(len(nodes) - 1, -1, -1):
        key, height, left, right = nodes[at]
        lower = 0 if left is None else nodes[left][1]
        nodes[at][1] = max(lower + 1, 1 if right is None else nodes[right][1])
    return _towers(nodes)


def shape_chance(shape, chance, rule):
    """Return the chance that the keys of a shape have just this shape."""
    nodes = _nodes(shape, SIZE_OF_SHAPE)
    check_chance_and_rule(chance, rule)
    if rule[0] == "free":
        return _free_chance(nodes, share(chance[0], chance[1]))
    heights = Capped(chance, rule[1])
    return share(_count(nodes, heights.weights), to_power(heights.whole, len(nodes)))


def shape_ways(shape, cap):
    """Return how many rows of heights up to the cap have this shape."""
    nodes = _nodes(shape, SIZE_OF_SHAPE)
    check_number(cap, 1, GREATEST_CAP)
    return _count(nodes, [1] * cap)


def _nodes(tree, size):
    """Return the list of the nodes of a tree or a shape, told by the size of its rows; raise NoTree if it is none.

    A node is a list [key, height, index of the left one, index of the right one]; None is told for what is not there.
    A node stands ahead of those in it. As trees may be nested deep, no calls stand in one another.
    """
    nodes = []
    # What is not looked at yet, with the bounds of its keys and heights (None: without one), and where it hangs.
    waiting = [(tree, None, None, None, None, None)]
    while waiting:
        thing, low, high, greatest, parent, side = waiting.pop()
        if thing is None:
            continue
        if not _is_node(thing, size, low, high, greatest):
            raise NoTree()
        key = thing[0]
        height = thing[1] if size == SIZE_OF_TREE else None
        if parent is not None:
            nodes[parent][side] = len(nodes)
        lower = None if height is None else height - 1
        waiting.append((thing[-1], key, high, height, len(nodes), 3))
        waiting.append((thing[-2], low, key, lower, len(nodes), 2))
        nodes.append([key, height, None, None])
    return nodes


def _is_node(thing, size, low, high, greatest):
    """Return whether an object has the form of a node, with its key and its height within the bounds."""
    if not is_row(thing) or len(thing) != size:
        return False
    key = thing[0]
    if not is_whole(key) or (low is not None and key <= low) or (high is not None and key >= high):
        return False
    if size == SIZE_OF_SHAPE:
        return True
    height = thing[1]
    return is_whole(height) and height >= 1 and (greatest is None or height <= greatest)


def _towers(nodes):
    """Return the towers with the keys and heights of nodes."""
    return tuple(sorted([(key, height) for key, height, left, right in nodes]))


def _built(towers, has_heights):
    """Return the tree of towers, or its shape."""
    # The right edge of what is built so far: towers with what is left of them.
    edge = []
    for key, height in towers:
        lower = None
        while edge and edge[-1][1] < height:
            lower = _hung(edge.pop(), lower, has_heights)
        edge.append((key, height, lower))
    tree = None
    while edge:
        tree = _hung(edge.pop(), tree, has_heights)
    return tree


def _hung(part, right, has_heights):
    """Return the node of a tower (key, height, left), with what is right of it."""
    key, height, left = part
    if has_heights:
        return key, height, left, right
    return key, left, right


def _count(nodes, weights):
    """Return the sum, over all rows of heights that have the shape of the nodes, of the products of their weights."""
    # By the height, from 0 to the cap: the sums for what hangs there and is not higher.
    rows = {None: [1] * (len(weights) + 1)}
    for at in range(len(nodes) - 1, -1, -1):
        left = rows[nodes[at][2]]
        right = rows[nodes[at][3]]
        row = [0]
        for height, weight in enumerate(weights, start=1):
            row.append(row[-1] + weight * left[height - 1] * right[height])
        rows[at] = row
    return rows[0][-1] if nodes else 1


def _free_chance(nodes, chance):
    """Return the chance of the shape of the nodes by the rule free."""
    # The chance that what hangs there has its shape and is not higher than h is a polynomial in x = p ** h.
    rows = {None: [ALL]}
    for at in range(len(nodes) - 1, -1, -1):
        left = rows[nodes[at][2]]
        right = rows[nodes[at][3]]
        # With y = p ** (h - 1) for the height h of the node: what is left has x = y, what is right has x = p * y.
        row = [NOTHING] * (len(left) + len(right) - 1)
        for place, one in enumerate(left):
            for other, two in enumerate(right):
                row[place + other] = plus(row[place + other], times(one, times(two, power(chance, other))))
        rows[at] = _summed(row, chance)
    return rows[0][0] if nodes else ALL


def _summed(row, chance):
    """Return the polynomial in x = p ** h that sums (1 - p) * y times one in y over the heights up to h."""
    summed = [NOTHING]
    for place, one in enumerate(row):
        # The sum of y ** e over these heights is (1 - x ** e) / (1 - p ** e).
        top, below = minus(ALL, power(chance, place + 1))
        part = times(times(one, minus(ALL, chance)), (below, top))
        summed[0] = plus(summed[0], part)
        summed.append(minus(NOTHING, part))
    return summed
