"""Deeds: keys are put into towers and taken out, one by one or as a history that uses coins."""

from tosslanes.checks import check_key, check_number, first_wrong, is_row, is_whole
from tosslanes.coins import check_coins, check_rule, coins_within, grown, limit_of
from tosslanes.errors import NoHistory, NoKey, NoRule, Short
from tosslanes.searches import SKIPPING, check_manner, cost_in, has_key
from tosslanes.towers import as_tuples, check_towers, count_below, links, tallest

WORDS = ("insert", "remove", "seek")


def inserted(towers, key, height):
    """Return the towers with a key put in."""
    check_towers(towers)
    check_key(key)
    if has_key(towers, key):
        raise NoKey(key)
    check_number(height, 1)
    return with_tower(towers, key, height)


def removed(towers, key):
    """Return the towers without a key that is there."""
    check_towers(towers)
    check_key(key)
    if not has_key(towers, key):
        raise NoKey(key)
    return without_key(towers, key)


def new_links(one, other):
    """Return the list of the links of `other` that are none of `one`."""
    there = {link: True for link in links(one)}
    return [link for link in links(other) if link not in there]


def run(history, coins, rule, manner="plain"):
    """Do a history from nothing on; return (towers, how many coins were used, the tuple of the costs)."""
    check_history(history)
    check_coins(coins)
    check_rule(rule)
    check_manner(manner)
    return _done(history, coins, rule, manner)


def stays(history):
    """Return the sorted list of the keys that are there at the end of a history."""
    check_history(history)
    indexes, there = insertions(history)
    return sorted(there)


def is_by(history, coins, rule, towers):
    """Return whether a history gives these towers and uses just these coins."""
    check_history(history)
    check_coins(coins)
    check_rule(rule)
    check_towers(towers)
    try:
        found, used, costs = _done(history, coins, rule, "plain")
    except Short:
        return False
    return used == len(coins) and found == as_tuples(towers)


def coins_to(history, towers, rule):
    """Return the first of the shortest rows of coins by which a history gives these towers, None if none does."""
    check_history(history)
    check_towers(towers)
    check_rule(rule)
    if rule[0] == "step":
        raise NoRule()
    indexes, there = insertions(history)
    if sorted(there) != [key for key, height in towers]:
        return None
    wanted = {there[key]: height for key, height in towers}
    limit = limit_of(rule, 0)
    coins = []
    for index in indexes:
        # A key that goes again takes the fewest coins at height 1; by cap 2 also at 2, but 0 comes before 1.
        one = coins_within(wanted.get(index, 1), limit)
        if one is None:
            return None
        coins.extend(one)
    return tuple(coins)


def is_deed(thing):
    """Return whether an object is a deed."""
    if not is_row(thing) or len(thing) != 2:
        return False
    word, key = thing
    return isinstance(word, str) and word in WORDS and is_whole(key)


def check_history(history):
    """Raise NoHistory, with the first element that is no deed, if an object is no history."""
    index = first_wrong(history, is_deed)
    if index is not None:
        raise NoHistory(index)


def with_tower(towers, key, height):
    """Return the towers with a key that is not there."""
    place = count_below(towers, key)
    rows = as_tuples(towers)
    return rows[:place] + ((key, height),) + rows[place:]


def without_key(towers, key):
    """Return the towers without a key that is there."""
    place = count_below(towers, key)
    rows = as_tuples(towers)
    return rows[:place] + rows[place + 1:]


def _done(history, coins, rule, manner):
    """Return what run returns, for arguments that are right."""
    other_manner = "lean" if manner in SKIPPING else "plain"
    towers = ()
    used = 0
    costs = []
    for index, (word, key) in enumerate(history):
        costs.append(cost_in(towers, key, manner if word == "seek" else other_manner))
        is_there = has_key(towers, key)
        if word == "insert" and not is_there:
            try:
                height, used = grown(coins, used, limit_of(rule, tallest(towers)))
            except Short:
                raise Short(index) from None
            towers = with_tower(towers, key, height)
        elif word == "remove" and is_there:
            towers = without_key(towers, key)
    return towers, used, tuple(costs)


def insertions(history):
    """Return (indexes, there): of the deeds that put a key in, and from each key that stays to its last one."""
    indexes = []
    there = {}
    for index, (word, key) in enumerate(history):
        if word == "insert" and key not in there:
            there[key] = index
            indexes.append(index)
        elif word == "remove" and key in there:
            del there[key]
    return indexes, there
