"""Chances of heights, coins, records and costs, over all coins at once, by the rule free and by caps."""

from math import comb

from tosslanes.capped import Capped
from tosslanes.checks import check_number, is_row
from tosslanes.coins import GREATEST_LIMIT, check_chance, is_rule
from tosslanes.endless import Endless
from tosslanes.errors import NoChance, NoManner, NoRule, NoSort
from tosslanes.pairs import Pair
from tosslanes.searches import SKIPPING, THREE_WAY, check_manner
from tosslanes.shares import (
    ALL, NOTHING, binomial, dict_of, is_less, minus, plus, power, share, sum_of, sums_of, times, to_power,
)

MANY = 30
MANY_IN_DICTS = 12
MANY_IN_PAIRS = 8
CAP_OF_PAIRS = 6
GREATEST_COUNT = 200
GREATEST_ROW = 9
SORTS = ("weak", "strict")


def height_chance(chance, rule, height):
    """Return the chance that a key has this height."""
    check_chance_and_rule(chance, rule)
    check_number(height, 1, GREATEST_LIMIT)
    return _top_chance(_heights(chance, rule, 1), 1, height)


def top_chance(chance, rule, many, height):
    """Return the chance that the top of so many keys is this one."""
    check_chance_and_rule(chance, rule)
    check_number(many, 0, MANY)
    check_number(height, 0, GREATEST_LIMIT)
    return _top_chance(_heights(chance, rule, many), many, height)


def top_mean(chance, rule, many):
    """Return the mean of the top of so many keys."""
    check_chance_and_rule(chance, rule)
    check_number(many, 0, MANY)
    return _heights(chance, rule, many).top_mean(many)


def lane_chances(chance, rule, many, level):
    """Return the dict from how many of so many keys are in a lane to the chance."""
    check_chance_and_rule(chance, rule)
    check_number(many, 0, MANY_IN_DICTS)
    check_number(level, 1, GREATEST_LIMIT)
    lower, below = _heights(chance, rule, many).at_most(level - 1)
    return dict_of(binomial(lower, below - lower, many), to_power(below, many))


def links_mean(chance, rule, many):
    """Return the mean of the number of links."""
    check_chance_and_rule(chance, rule)
    check_number(many, 0, MANY)
    heights = _heights(chance, rule, many + 1)
    return plus(times((many, 1), heights.top_mean(1)), heights.top_mean(many))


def coins_chance(chance, rule, many, count):
    """Return the chance that just so many coins are tossed for the heights of so many keys."""
    check_chance_and_rule(chance, rule)
    check_number(many, 0, MANY)
    check_number(count, 0, GREATEST_COUNT)
    part, below = share(chance[0], chance[1])
    # Towers that end at the cap toss no last coin; without a cap no tower does so.
    most_ends = 0 if rule[0] == "free" else many
    greatest = count if rule[0] == "free" else rule[1] - 1
    rows = 0
    for ends in range(most_ends + 1):
        left = count - ends * greatest
        others = many - ends
        if left >= others:
            ways = comb(many, ends) * _parted(left, others, greatest)
            rows += ways * to_power(part, count - others) * to_power(below - part, others)
    return share(rows, to_power(below, count))


def coins_mean(chance, rule, many):
    """Return the mean of the number of coins that are tossed for the heights of so many keys."""
    check_chance_and_rule(chance, rule)
    check_number(many, 0, MANY)
    if rule[0] == "free":
        one = Endless(chance, 1).top_mean(1)
    elif rule[1] == 1:
        one = NOTHING
    else:
        # So many coins are tossed as the tower has lanes below the cap.
        one = Capped(chance, rule[1] - 1).top_mean(1)
    return times((many, 1), one)


def record_chances(chance, rule, many, sort):
    """Return the dict from the number of records of so many heights to the chance."""
    check_chance_and_rule(chance, rule)
    check_number(many, 0, MANY_IN_DICTS)
    _check_sort(sort)
    counts, below = _heights(chance, rule, many).record_counts(many, sort == "weak")
    return dict_of(counts, below)


def record_mean(chance, rule, many, sort):
    """Return the mean of the number of records of so many heights."""
    check_chance_and_rule(chance, rule)
    check_number(many, 0, MANY)
    _check_sort(sort)
    return _record_means(_heights(chance, rule, many), many, sort == "weak")[many]


def cost_chance(chance, rule, many, index, manner, compares):
    """Return the chance that a search makes just so many comparisons."""
    _check_search(chance, rule, many, index, manner)
    check_number(compares, 0, GREATEST_COUNT)
    return _heights(chance, rule, many).cost_chance(index, many - 1 - index, manner, compares)


def cost_above(chance, rule, many, index, manner, compares):
    """Return the chance that a search makes more than so many comparisons."""
    _check_search(chance, rule, many, index, manner)
    check_number(compares, 0, GREATEST_COUNT)
    heights = _heights(chance, rule, many)
    return minus(ALL, heights.cost_at_most(index, many - 1 - index, manner, compares))


def cost_chances(chance, rule, many, index, manner):
    """Return the dict from the numbers of comparisons of a search to their chances."""
    _check_search(chance, rule, many, index, manner, MANY_IN_DICTS)
    _check_finite(rule, manner)
    counts, below = _heights(chance, rule, many).cost_row(index, many - 1 - index, manner)
    return dict_of(counts, below)


def cost_mean(chance, rule, many, index, manner):
    """Return the mean of the comparisons of a search."""
    _check_search(chance, rule, many, index, manner)
    return _cost_means(_heights(chance, rule, many), many, manner)[index]


def cost_spread(chance, rule, many, index, manner):
    """Return the mean of the square of the comparisons of a search, less the square of their mean."""
    _check_search(chance, rule, many, index, manner)
    return _heights(chance, rule, many).cost_spread(index, many - 1 - index, manner)


def mean_total(chance, rule, many, manner):
    """Return the mean of the sum of the comparisons of searches for all keys."""
    check_chance_and_rule(chance, rule)
    check_number(many, 0, MANY)
    check_manner(manner)
    return _mean_total(chance, rule, many, manner)


def rights_mean(chance, rule, many, index, manner):
    """Return the mean of the moves to the right of a search."""
    _check_search(chance, rule, many, index, manner)
    return _rights_means(_heights(chance, rule, many), many, manner)[index]


def downs_mean(chance, rule, many, index, manner):
    """Return the mean of the moves down of a search."""
    _check_search(chance, rule, many, index, manner)
    heights = _heights(chance, rule, many)
    lanes = heights.top_mean(many)
    return minus(lanes, heights.top_mean(1) if manner in THREE_WAY else ALL)


def pair_chances(chance, rule, many, one, other, manner):
    """Return the dict from pairs of numbers of comparisons, of searches for two keys, to their chances."""
    _check_pair(chance, rule, many, one, other, manner)
    _check_finite(rule, manner)
    counts, below = _pair(chance, rule, many, one, other, manner).counts()
    return {pair: share(counts[pair], below) for pair in sorted(counts)}


def pair_mean(chance, rule, many, one, other, manner):
    """Return the mean of the product of both numbers of comparisons, less the product of their means."""
    _check_pair(chance, rule, many, one, other, manner)
    return _pair(chance, rule, many, one, other, manner).spread()


def cheapest(chances, rule, many, manner):
    """Return the index of the first of a row of chances for which mean_total is least."""
    if not is_row(chances) or not 1 <= len(chances) <= GREATEST_ROW:
        raise NoChance()
    for chance in chances:
        check_chance(chance)
    _check_rule(rule)
    check_number(many, 0, MANY)
    check_manner(manner)
    totals = [_mean_total(chance, rule, many, manner) for chance in chances]
    best = 0
    for index, total in enumerate(totals):
        if is_less(total, totals[best]):
            best = index
    return best


def cut_by(chance, cap, many, manner):
    """Return mean_total by the rule free, less that by the cap."""
    check_chance(chance)
    check_number(cap, 1, GREATEST_LIMIT)
    free = mean_total(chance, ("free",), many, manner)
    return minus(free, mean_total(chance, ("cap", cap), many, manner))


def _check_rule(rule):
    """Raise NoRule if a rule is neither free nor a cap."""
    if not is_rule(rule) or rule[0] == "step":
        raise NoRule()


def check_chance_and_rule(chance, rule):
    """Raise NoChance or NoRule."""
    check_chance(chance)
    _check_rule(rule)


def _check_sort(sort):
    """Raise NoSort if an object is no sort of records."""
    if not isinstance(sort, str) or sort not in SORTS:
        raise NoSort()


def _check_search(chance, rule, many, index, manner, greatest=MANY):
    """Raise the errors of a search among so many keys, in their order."""
    check_chance_and_rule(chance, rule)
    check_number(many, 0, greatest)
    check_number(index, 0, many - 1)
    check_manner(manner)


def _check_pair(chance, rule, many, one, other, manner):
    """Raise the errors of two searches, in their order."""
    check_chance_and_rule(chance, rule)
    if rule[0] == "cap" and rule[1] > CAP_OF_PAIRS:
        raise NoRule()
    check_number(many, 0, MANY_IN_PAIRS)
    check_number(one, 0, many - 1)
    check_number(other, one + 1, many - 1)
    check_manner(manner)


def _check_finite(rule, manner):
    """Raise NoManner if there are endlessly many numbers of comparisons."""
    if rule[0] == "free" and manner not in SKIPPING:
        raise NoManner()


def _heights(chance, rule, many):
    """Return the heights by a rule, for at most so many keys."""
    if rule[0] == "free":
        return Endless(chance, many)
    return Capped(chance, rule[1])


def _pair(chance, rule, many, one, other, manner):
    """Return the two searches."""
    cap = None if rule[0] == "free" else rule[1]
    return Pair(chance, cap, many, (one, other), manner)


def _top_chance(heights, many, height):
    """Return the chance that the top of so many keys is this one."""
    # No keys have the top 0, and a height below 1 is no key's.
    if height == 0:
        return ALL if many == 0 else NOTHING
    return minus(power(heights.at_most(height), many), power(heights.at_most(height - 1), many))


def _parted(total, parts, greatest):
    """Return in how many ways a total is the sum of so many numbers from 1 to the greatest one, in order."""
    if parts == 0:
        return 1 if total == 0 else 0
    ways = 0
    for over in range(parts + 1):
        left = total - over * greatest
        if left >= parts:
            some = comb(parts, over) * comb(left - 1, parts - 1)
            ways += -some if over & 1 else some
    return ways


def _record_means(heights, many, is_weak):
    """Return the list of the means of the records of 0, 1, .., `many` heights."""
    return sums_of([heights.record_chance(others, is_weak) for others in range(many)])


def _rights_means(heights, many, manner):
    """Return the list of the means of the moves to the right, by the index of the key."""
    weak = _record_means(heights, many, True)
    if manner not in THREE_WAY:
        return weak[:many]
    # The weak records that are as high as the key are those behind it in the row that begins with it.
    return [minus(mean, ALL) for mean in weak[1:]]


def _cost_means(heights, many, manner):
    """Return the list of the means of the comparisons, by the index of the key."""
    if manner in SKIPPING:
        stops = _record_means(heights, many, False)
    else:
        stops = [heights.top_mean(others) for others in range(many + 1)]
    last = NOTHING if manner == "sharp" else ALL
    if manner == "early" and many > 0:
        last = minus(ALL, stops[1])
    rights = _rights_means(heights, many, manner)
    return [sum_of([mean, stops[many - index], last]) for index, mean in enumerate(rights)]


def _mean_total(chance, rule, many, manner):
    """Return what mean_total returns, for arguments that are right."""
    return sum_of(_cost_means(_heights(chance, rule, many), many, manner))
