"""Meanwhile: a writer changes the links of towers one by one, while a reader searches."""

from tosslanes.checks import check_key, check_number, first_wrong, is_row, is_whole
from tosslanes.coins import GREATEST_LIMIT, is_coin
from tosslanes.errors import NoAct, NoManner, NoOrder, NoTurns
from tosslanes.races import Race, links_of
from tosslanes.searches import has_key, lasts_before
from tosslanes.towers import check_towers, count_below, tallest

ORDERS = ("up", "down", "late")
MANNERS = ("plain", "early")


def writes(towers, act, order):
    """Return the list of the writes ((key, level), next) of an act, one after the other."""
    _check_act(towers, act, order)
    return _writes(towers, act, order)


def answer(towers, act, order, key, manner, turns):
    """Return (answer, is_true): what a reader answers, and whether it is true in its time."""
    _check_reader(towers, act, order, key, manner)
    index = first_wrong(turns, is_coin)
    if index is not None:
        raise NoTurns(index)
    return _race(towers, act, order, key, manner).answer(turns)


def outcomes(towers, act, order, key, manner):
    """Return the dict, sorted, from each (answer, is_true) to how many rows of turns lead to it."""
    _check_reader(towers, act, order, key, manner)
    return _race(towers, act, order, key, manner).outcomes()


def bad_turns(towers, act, order, key, manner):
    """Return the first of the shortest rows of turns with a bad answer, None if there is none."""
    _check_reader(towers, act, order, key, manner)
    return _race(towers, act, order, key, manner).bad_turns()


def memory_after(towers, act, order, many):
    """Return the memory behind the first so many writes."""
    _check_act(towers, act, order)
    told = _writes(towers, act, order)
    check_number(many, 0, len(told))
    return _memory(towers, act, told[:many])


def behind_all(towers, act, order):
    """Return the memory behind all writes, less the own links of a key that was removed."""
    _check_act(towers, act, order)
    memory = _memory(towers, act, _writes(towers, act, order))
    if act[0] == "remove":
        return {place: other for place, other in memory.items() if place[0] != act[1]}
    return memory


def _check_act(towers, act, order):
    """Raise NoTowers, NoAct or NoOrder."""
    check_towers(towers)
    if not _fits(towers, act):
        raise NoAct()
    if not isinstance(order, str) or order not in ORDERS:
        raise NoOrder()


def _fits(towers, act):
    """Return whether an object is an act that fits the towers."""
    if not is_row(act) or len(act) < 2 or not isinstance(act[0], str) or not is_whole(act[1]):
        return False
    is_there = has_key(towers, act[1])
    if len(act) == 2:
        return act[0] == "remove" and is_there
    if len(act) > 3 or act[0] != "insert" or is_there:
        return False
    return is_whole(act[2]) and 1 <= act[2] <= GREATEST_LIMIT


def _check_reader(towers, act, order, key, manner):
    """Raise the errors of a writer and a reader, in their order."""
    _check_act(towers, act, order)
    check_key(key)
    if not isinstance(manner, str) or manner not in MANNERS:
        raise NoManner()


def _height(towers, act):
    """Return the height of the tower of an act."""
    return act[2] if act[0] == "insert" else towers[count_below(towers, act[1])][1]


def _lanes(towers, act):
    """Return how many lanes the head has."""
    return max(tallest(towers), _height(towers, act))


def _nexts(towers, key, height):
    """Return the list of the first keys behind a key in the lanes from 1 to a height (None: the end)."""
    nexts = [None] * height
    for other, tall in reversed(towers):
        if other <= key:
            break
        nexts[:tall] = [other] * min(tall, height)
    return nexts


def _writes(towers, act, order):
    """Return what writes returns, for arguments that are right."""
    key = act[1]
    height = _height(towers, act)
    lasts = lasts_before(towers, key)
    lasts = (lasts + [None] * height)[:height]
    nexts = _nexts(towers, key, height)
    own = [((key, level), other) for level, other in enumerate(nexts, start=1)]
    if act[0] == "insert":
        ahead = [((last, level), key) for level, last in enumerate(lasts, start=1)]
        if order == "late":
            return ahead + own
        return own + (ahead if order == "up" else ahead[::-1])
    ahead = [((last, level), nexts[level - 1]) for level, last in enumerate(lasts, start=1)]
    if order == "up":
        return ahead
    if order == "down":
        return ahead[::-1]
    return ahead[::-1] + [(place, None) for place, other in own]


def _memory(towers, act, told):
    """Return the memory behind some writes."""
    memory = links_of(towers, _lanes(towers, act))
    for place, other in told:
        memory[place] = other
    return memory


def _race(towers, act, order, key, manner):
    """Return the race of a writer and a reader."""
    told = _writes(towers, act, order)
    lanes = _lanes(towers, act)
    there = [has_key(towers, key)] * (len(told) + 1)
    if key == act[1]:
        # The key comes, or goes, with the link ahead of it in lane 1.
        last = lasts_before(towers, key)[0] if towers else None
        change = [place for place, other in told].index((last, 1))
        there[change + 1:] = [act[0] == "insert"] * (len(told) - change)
    return Race(links_of(towers, lanes), told, there, key, manner, lanes)
