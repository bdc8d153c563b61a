"""Orders: in which orders keys can get the heights of some towers by step, and what histories lead to."""

from math import factorial

from tosslanes.checks import check_new_keys, check_number, is_row, is_whole
from tosslanes.coins import GREATEST_LIMIT, check_chance, check_rule, limit_of
from tosslanes.deeds import check_history, insertions
from tosslanes.errors import NoChance
from tosslanes.lots import check_finite, height_weights
from tosslanes.reaches import changes, mean_tosses, reached, tosses_by_step
from tosslanes.shares import ALL, NOTHING, dict_of, minus, power, powers_of, share, times, to_power
from tosslanes.towers import check_towers, tallest

GREATEST_BELOW = 20
MOST_INSERTIONS = 60


def orders(towers):
    """Return in how many orders keys that are inserted into nothing by step can get the heights of towers."""
    check_towers(towers)
    return _orders([height for key, height in towers], 0)


def order_at(towers, index):
    """Return the order with an index, of all of them sorted as tuples."""
    check_towers(towers)
    heights = [height for key, height in towers]
    check_number(index, 0, _orders(heights, 0) - 1)
    keys = [key for key, height in towers]
    told = []
    top = 0
    while keys:
        at, index = _next_place(heights, top, index)
        told.append(keys.pop(at))
        top = max(top, heights.pop(at))
    return tuple(told)


def is_order(towers, keys):
    """Return whether a row of keys is an order in which they can get the heights of towers."""
    check_towers(towers)
    if not is_row(keys) or not all([is_whole(key) for key in keys]):
        return False
    if sorted(keys) != [key for key, height in towers]:
        return False
    heights = {key: height for key, height in towers}
    top = 0
    for key in keys:
        if heights[key] > top + 1:
            return False
        top = max(top, heights[key])
    return True


def chance_in(towers, keys, chance, rule):
    """Return the chance that the keys of a row, inserted into nothing in this order, get just these towers."""
    check_towers(towers)
    check_new_keys(keys, [])
    check_chance(chance)
    check_rule(rule)
    if sorted(keys) != [key for key, height in towers]:
        return NOTHING
    heights = {key: height for key, height in towers}
    top = 0
    grows = 0
    ends = 0
    for key in keys:
        height = heights[key]
        limit = limit_of(rule, top)
        if limit is not None and height > limit:
            return NOTHING
        grows += height - 1
        # At the limit no coin is tossed that ends the tower.
        ends += 0 if height == limit else 1
        top = max(top, height)
    one = share(chance[0], chance[1])
    return times(power(one, grows), power(minus(ALL, one), ends))


def mixed(towers, chance):
    """Return the mean of the chance of towers by step over all orders of their keys."""
    check_towers(towers)
    check_chance(chance)
    heights = [height for key, height in towers]
    count = _orders(heights, 0)
    if count == 0:
        return NOTHING
    one = share(chance[0], chance[1])
    each = times(power(one, sum(heights) - len(heights)), power(minus(ALL, one), len(heights) - tallest(towers)))
    return times(share(count, factorial(len(heights))), each)


def top_after(many, chance):
    """Return the dict from each top behind so many insertions into nothing by step, rising, to its chance."""
    _check_tops(many, chance)
    counts, below = _tops(many, share(chance[0], chance[1]))
    return {top: share(count, below) for top, count in counts.items()}


def height_in(many, chance):
    """Return the dict from each height of the last key of so many, inserted by step, rising, to its chance."""
    _check_tops(many, chance)
    one = share(chance[0], chance[1])
    counts, below = _tops(many - 1, one)
    found = [0] * (many + 1)
    for top, count in counts.items():
        for height, weight in enumerate(height_weights(one, top + 1, many), start=1):
            found[height] += count * weight
    return dict_of(found, below * to_power(one[1], many - 1))


def reach(history, rule):
    """Return the sorted list of all towers that a history can lead to."""
    check_history(history)
    check_finite(rule)
    indexes, there = insertions(history)
    return sorted([tuple(sorted(zip(there, row))) for row in reached(history, rule)])


def deeds_for(towers, rule):
    """Return the least number of deeds of a history that can lead to towers, None if there is none."""
    check_towers(towers)
    check_rule(rule)
    if not _can_lead(towers, rule):
        return None
    if rule[0] != "step":
        return len(towers)
    there = {height: True for key, height in towers}
    return len(towers) + 2 * (tallest(towers) - len(there))


def history_for(towers, rule):
    """Return a shortest history that can lead to towers, None if there is none."""
    check_towers(towers)
    check_rule(rule)
    if not _can_lead(towers, rule):
        return None
    if rule[0] != "step":
        return [("insert", key) for key, height in towers]
    told = []
    helpers = []
    for level in range(1, tallest(towers) + 1):
        new = [key for key, height in towers if height == level]
        if not new:
            # Some other key must be this high, so that one can come that is higher.
            new = [_other_key(towers, helpers)]
            helpers.extend(new)
        told.extend([("insert", key) for key in new])
    return told + [("remove", key) for key in helpers]


def tosses_mean(history, chance, rule):
    """Return the mean number of the coins that a history tosses."""
    check_history(history)
    check_chance(chance)
    check_rule(rule)
    if rule[0] == "step":
        # Raises if there are too many towers.
        reached(history, rule)
        return tosses_by_step(history, chance, rule)
    if rule[0] == "free":
        one = share(chance[1], chance[1] - chance[0])
    else:
        one = mean_tosses(chance, rule[1])
    return times((_many_insertions(history), 1), one)


def tosses_most(history, rule):
    """Return the greatest number of the coins that a history tosses, None if there is none."""
    check_history(history)
    check_rule(rule)
    many = _many_insertions(history)
    if rule[0] == "free":
        return 0 if many == 0 else None
    if rule[0] == "cap":
        return many * (rule[1] - 1)
    reached(history, rule)
    # Most coins are tossed if all are 1: later towers may grow the further, too.
    heights = []
    tosses = 0
    for index, word, place in changes(history):
        if word == "insert":
            heights.append(limit_of(rule, max(heights, default=0)))
            tosses += heights[-1] - 1
        else:
            heights.pop(place)
    return tosses


def strings(history, towers, cap):
    """Return how many rows of coins, all used, lead by a history and a cap to towers."""
    check_history(history)
    check_towers(towers)
    check_number(cap, 1, GREATEST_LIMIT)
    indexes, there = insertions(history)
    if sorted(there) != [key for key, height in towers] or tallest(towers) > cap:
        return 0
    # A tower that is gone may have had any height, each by coins of its own.
    return to_power(cap, len(indexes) - len(there))


def likeliest(keys, chance, rule):
    """Return (chance, towers): the greatest chance of any towers of the keys alone, and the first such towers."""
    check_new_keys(keys, [])
    check_chance(chance)
    check_finite(rule)
    one = share(chance[0], chance[1])
    if rule[0] == "cap":
        weights = height_weights(one, rule[1], rule[1])
        height = weights.index(max(weights)) + 1
        greatest = power(share(max(weights), to_power(one[1], rule[1] - 1)), len(keys))
        return greatest, tuple([(key, height) for key in sorted(keys)])
    return _likeliest_by_step(keys, one, rule)


def _orders(heights, top):
    """Return in how many orders keys with these heights can follow behind a top, by step."""
    highest = max(heights, default=0)
    if len({height for height in heights if height > top}) < highest - top:
        return 0
    # Of the keys that are at least h high, for each h above the top, the first one must be just h high.
    above = 1
    below = 1
    reaching = 0
    for level in range(highest, top, -1):
        many = heights.count(level)
        reaching += many
        above *= many
        below *= reaching
    return factorial(len(heights)) * above // below


def _next_place(heights, top, index):
    """Return (place, index): of the next key, and of the order of the others among those that follow it."""
    counts = {}
    for at, height in enumerate(heights):
        if height <= top + 1:
            # How many orders follow is told by whether the top grows.
            is_higher = height > top
            if is_higher not in counts:
                counts[is_higher] = _orders(heights[:at] + heights[at + 1:], max(top, height))
            if index < counts[is_higher]:
                break
            index -= counts[is_higher]
    return at, index


def _check_tops(many, chance):
    """Raise NoNumber, or NoChance (also for a chance of too fine parts)."""
    check_number(many, 1, MOST_INSERTIONS)
    check_chance(chance)
    if chance[1] > GREATEST_BELOW:
        raise NoChance()


def _tops(many, chance):
    """Return (counts, below): the chances of the tops behind so many insertions into nothing by step, rising."""
    part, whole = chance
    parts = powers_of(part, many)
    wholes = powers_of(whole, many)
    counts = {0: 1}
    below = 1
    for greatest in range(many):
        # The greatest top so far; all counts are brought to the same parts.
        grown = {}
        for top, count in counts.items():
            count *= wholes[greatest - top]
            grown[top] = grown.get(top, 0) + count * (wholes[top] - parts[top])
            grown[top + 1] = count * parts[top]
        counts = {top: count for top, count in grown.items() if count > 0}
        below *= wholes[greatest]
    return counts, below


def _many_insertions(history):
    """Return how many insertions of a history find their key away."""
    indexes, there = insertions(history)
    return len(indexes)


def _other_key(towers, helpers):
    """Return the least key from 0 up that is neither in the towers nor a helper."""
    taken = [key for key, height in towers] + helpers
    key = 0
    while key in taken:
        key += 1
    return key


def _can_lead(towers, rule):
    """Return whether some history can lead to towers by a rule."""
    return len(rule) == 1 or tallest(towers) <= rule[1]


def _likeliest_by_step(keys, chance, rule):
    """Return what likeliest returns, by a rule of steps."""
    many = len(keys)
    weights = {limit: height_weights(chance, limit, many) for limit in range(1, many + 1)}
    fixed = [None] * many
    greatest = _greatest(fixed, weights, rule)
    # From the least key on the lowest height with which the greatest chance can still be reached.
    for key in sorted(keys):
        place = keys.index(key)
        fixed[place] = 1
        while _greatest(fixed, weights, rule) < greatest:
            fixed[place] += 1
    below = to_power(chance[1], many * max(many - 1, 0))
    return share(greatest, below), tuple(sorted(zip(keys, fixed)))


def _greatest(fixed, weights, rule):
    """Return the greatest product of the weights of heights, some of them fixed, of keys inserted one by one."""
    tops = {0: 1}
    for height in fixed:
        grown = {}
        for top, product in tops.items():
            for one, weight in enumerate(weights[limit_of(rule, top)], start=1):
                if height is None or height == one:
                    other = max(top, one)
                    grown[other] = max(grown.get(other, 0), product * weight)
        tops = grown
    return max(tops.values(), default=0)
