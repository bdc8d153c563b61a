"""Coins: the heights that they give, by rules that tell how far a tower may grow."""

from tosslanes.checks import check_number, first_wrong, is_row, is_whole
from tosslanes.errors import NoChance, NoCoins, NoHeights, NoRule, Short, Spare

GREATEST_LIMIT = 64
GREATEST_BELOW = 1000


def most(rule, top):
    """Return the greatest height of a key that is put into towers with this top, None if there is none."""
    check_rule(rule)
    check_number(top, 0)
    return limit_of(rule, top)


def toss(coins, at, rule, top):
    """Return (height, place): what comes of the coins from a place on, and the place behind the last one used."""
    check_coins(coins)
    check_number(at, 0, len(coins))
    return grown(coins, at, most(rule, top))


def coins_for(height, rule, top):
    """Return the tuple of the coins that give just this height, None if the rule does not allow it."""
    check_number(height, 1)
    return coins_within(height, most(rule, top))


def coins_of(heights, rule):
    """Return the tuple of the coins by which keys put into nothing, one by one, get these heights, or None."""
    check_heights(heights)
    check_rule(rule)
    told = []
    top = 0
    for height in heights:
        coins = coins_within(height, limit_of(rule, top))
        if coins is None:
            return None
        told.extend(coins)
        top = max(top, height)
    return tuple(told)


def heights_of(coins, rule):
    """Return the list of the heights that come of a row of coins, one behind the other."""
    check_coins(coins)
    check_rule(rule)
    # Where not even the second key may grow, no key ever does: nothing wants a coin.
    if len(coins) > 0 and limit_of(rule, 1) == 1:
        raise Spare(0)
    told = []
    top = 0
    place = 0
    while place < len(coins):
        height, place = grown(coins, place, limit_of(rule, top))
        told.append(height)
        top = max(top, height)
    return told


def is_coin(thing):
    """Return whether an object is a coin."""
    return is_whole(thing) and (thing == 0 or thing == 1)


def is_chance(thing):
    """Return whether an object is a chance (a, b)."""
    if not is_row(thing) or len(thing) != 2:
        return False
    part, below = thing
    return is_whole(part) and is_whole(below) and 0 < part < below <= GREATEST_BELOW


def is_rule(thing):
    """Return whether an object is a rule."""
    if not is_row(thing) or len(thing) not in (1, 2) or not isinstance(thing[0], str):
        return False
    if len(thing) == 1:
        return thing[0] in ("free", "step")
    word, limit = thing
    return word in ("cap", "step") and is_whole(limit) and 1 <= limit <= GREATEST_LIMIT


def check_coins(coins):
    """Raise NoCoins, with the first element that is no coin, if an object is no row of coins."""
    index = first_wrong(coins, is_coin)
    if index is not None:
        raise NoCoins(index)


def check_heights(heights):
    """Raise NoHeights, with the first element that is no height, if an object is no row of heights."""
    index = first_wrong(heights, _is_height)
    if index is not None:
        raise NoHeights(index)


def check_chance(chance):
    """Raise NoChance if an object is no chance."""
    if not is_chance(chance):
        raise NoChance()


def check_rule(rule):
    """Raise NoRule if an object is no rule."""
    if not is_rule(rule):
        raise NoRule()


def limit_of(rule, top):
    """Return what most returns, for a rule and a top that are known to be right."""
    if rule[0] == "free":
        return None
    if rule[0] == "cap":
        return rule[1]
    if len(rule) == 1:
        return top + 1
    return min(top + 1, rule[1])


def grown(coins, at, limit):
    """Return what toss returns, for coins and a place that are right, and a tower that may grow to the limit."""
    height = 1
    place = at
    while limit is None or height < limit:
        if place == len(coins):
            raise Short(place)
        coin = coins[place]
        place += 1
        if coin == 0:
            break
        height += 1
    return height, place


def coins_within(height, limit):
    """Return what coins_for returns, for a tower that may grow to the limit."""
    if limit is not None and height > limit:
        return None
    grows = (1,) * (height - 1)
    # At the limit no coin is tossed that could end the tower.
    if height == limit:
        return grows
    return grows + (0,)


def _is_height(thing):
    """Return whether an object is a height."""
    return is_whole(thing) and thing >= 1
