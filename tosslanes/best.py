"""The best and the worst: what searches cost that are made so and so often, and the luck of a history."""

from tosslanes.checks import check_number, first_wrong, is_whole
from tosslanes.coins import check_heights, coins_within
from tosslanes.deeds import check_history
from tosslanes.errors import NoHeights, NoMisses, NoWeights
from tosslanes.prices import Prices
from tosslanes.searches import check_manner

MOST_WEIGHTS = 30
GREATEST_CAP = 8
GREATEST_CAP_OF_LUCK = 4


def price(heights, weights, misses, manner):
    """Return the price of a row of heights."""
    _check_weights(weights)
    check_heights(heights)
    if len(heights) != len(weights):
        raise NoHeights(-1)
    _check_misses(misses, len(weights))
    check_manner(manner)
    return Prices(weights, misses, manner).of(heights)


def best(weights, misses, manner, cap):
    """Return (price, heights): the least price of all rows of heights up to the cap, and such heights."""
    _check_sought(weights, misses, manner, cap)
    return Prices(weights, misses, manner).least(cap)


def worst(weights, misses, manner, cap):
    """Return (price, heights): the greatest price of all rows of heights up to the cap, and such heights."""
    _check_sought(weights, misses, manner, cap)
    return Prices(weights, misses, manner).greatest(cap)


def luck(history, manner, cap):
    """Return (least, greatest): the prices of a history over all its coins."""
    _check_luck(history, manner, cap)
    prices = list(_prices(history, manner, cap).values())
    return min(prices), max(prices)


def lucky_coins(history, manner, cap):
    """Return the first of the shortest rows of coins with the least price."""
    _check_luck(history, manner, cap)
    prices = _prices(history, manner, cap)
    least = min(prices.values())
    rows = [_coins(heights, cap) for heights, price in prices.items() if price == least]
    return min(rows, key=lambda coins: (len(coins), coins))


def fewest_heads(history, manner, cap, most):
    """Return the least number of 1s in any row of coins with a price of at most `most`, None if there is none."""
    _check_luck(history, manner, cap)
    check_number(most, 0)
    heads = [sum(heights) - len(heights) for heights, price in _prices(history, manner, cap).items() if price <= most]
    return min(heads, default=None)


def _is_count(thing):
    """Return whether an object is an integer from 0."""
    return is_whole(thing) and thing >= 0


def _check_weights(weights):
    """Raise NoWeights, with the first element that is wrong, or -1."""
    index = first_wrong(weights, _is_count)
    if index is not None:
        raise NoWeights(index)
    if not 1 <= len(weights) <= MOST_WEIGHTS:
        raise NoWeights(-1)


def _check_misses(misses, many):
    """Raise NoMisses, with the first element that is wrong, or -1."""
    index = first_wrong(misses, _is_count)
    if index is not None:
        raise NoMisses(index)
    if len(misses) not in (0, many + 1):
        raise NoMisses(-1)


def _check_sought(weights, misses, manner, cap):
    """Raise the errors of best and worst, in their order."""
    _check_weights(weights)
    _check_misses(misses, len(weights))
    check_manner(manner)
    check_number(cap, 1, GREATEST_CAP)


def _check_luck(history, manner, cap):
    """Raise the errors of the luck of a history, in their order."""
    check_history(history)
    check_manner(manner)
    check_number(cap, 1, GREATEST_CAP_OF_LUCK)


def _coins(heights, cap):
    """Return the coins that give a row of heights by the cap."""
    coins = []
    for height in heights:
        coins.extend(coins_within(height, cap))
    return tuple(coins)


def _prices(history, manner, cap):
    """Return the dict from each row of heights of the insertions of a history to its price."""
    prices = {(): 0}
    for deed in _merged(history):
        if deed is None:
            prices = {heights + (one,): price for heights, price in prices.items() for one in range(1, cap + 1)}
        else:
            order, weights, misses = deed
            sought = Prices(weights, misses, manner)
            known = {}
            for heights in prices:
                row = tuple([heights[at] for at in order])
                if row not in known:
                    known[row] = sought.of(row)
            prices = {
                heights: price + known[tuple([heights[at] for at in order])] for heights, price in prices.items()
            }
    return prices


def _merged(history):
    """Return the list of what a history does: None for an insertion that puts a key in, and between these the seeks.

    Seeks are told by the indexes of the insertions of the keys that are there, in the order of these keys, by how
    often each key is sought, and how often what lies ahead of, between and behind them.
    """
    merged = []
    there = {}
    many = 0
    seeks = []
    for word, key in history:
        if word == "seek":
            seeks.append(key)
        elif (word == "insert") != (key in there):
            if seeks:
                merged.append(_sought(there, seeks))
                seeks = []
            if word == "insert":
                merged.append(None)
                there[key] = many
                many += 1
            else:
                del there[key]
    if seeks:
        merged.append(_sought(there, seeks))
    return merged


def _sought(there, seeks):
    """Return (order, weights, misses) of some seeks, by the dict from each key to the index of its insertion."""
    keys = sorted(there)
    weights = [0] * len(keys)
    misses = [0] * (len(keys) + 1)
    for key in seeks:
        if key in there:
            weights[keys.index(key)] += 1
        else:
            misses[len([other for other in keys if other < key])] += 1
    return [there[key] for key in keys], weights, misses
