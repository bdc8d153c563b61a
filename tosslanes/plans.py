"""Plans: acts that may look at the towers, their chances, and lookers that seek the best deeds."""

from tosslanes.checks import check_key, check_new_keys, check_number, is_row, is_whole
from tosslanes.coins import check_chance
from tosslanes.deeds import check_history, is_deed
from tosslanes.errors import NoPlan
from tosslanes.lookers import Blind, Looker
from tosslanes.lots import Lots, check_finite
from tosslanes.reaches import changes, reached
from tosslanes.searches import check_manner, cost_in
from tosslanes.shares import NOTHING, share
from tosslanes.towers import as_tuples, check_towers

CHOOSING = ("tallest", "lowest")
THEN = ("remove", "again")
MOST_DEEDS = 8
GREATEST_CAP = 3


def is_plan(thing):
    """Return whether an object is a plan."""
    return _wrong_place(thing) is None


def is_blind(plan):
    """Return whether all acts of a plan are deeds."""
    _check_plan(plan)
    return all([is_deed(act) for act in plan])


def chances_of(plan, chance, rule):
    """Return the dict from all towers that a plan can lead to, sorted, to their chances."""
    _check_plan(plan)
    _check_lots(chance, rule)
    return _lots(plan, chance, rule).chances()


def alone(keys, chance, rule):
    """Return the chances of the keys of a row, inserted in their order."""
    check_new_keys(keys, [])
    _check_lots(chance, rule)
    return _lots([("insert", key) for key in keys], chance, rule).chances()


def mean_after(plan, key, manner, chance, rule):
    """Return the mean number of comparisons of a search for a key behind a plan."""
    _check_plan(plan)
    check_key(key)
    check_manner(manner)
    _check_lots(chance, rule)
    lots = _lots(plan, chance, rule)
    return share(sum([count * cost_in(towers, key, manner)[2] for towers, count in lots.table.items()]), lots.below)


def alike(one, other, chance, rule):
    """Return None if two plans have the same chances, otherwise the first towers that have unlike ones, with these."""
    _check_plan(one)
    _check_plan(other)
    _check_lots(chance, rule)
    first = _lots(one, chance, rule).chances()
    second = _lots(other, chance, rule).chances()
    for towers in sorted([*first, *second]):
        chances = (first.get(towers, NOTHING), second.get(towers, NOTHING))
        if chances[0] != chances[1]:
            return towers, chances[0], chances[1]
    return None


def parting(history, chance, rule):
    """Return how many first deeds lead to chances that are not those of the keys alone, None if no number does."""
    check_history(history)
    _check_lots(chance, rule)
    # All deeds are gone through for the number of towers, also those behind the one that is told.
    reached(history, rule)
    many = 0
    for index, word, place in changes(history):
        if word == "insert":
            many += 1
        else:
            if _parts(rule, place, many):
                return index + 1
            many -= 1
    return None


def looker(towers, keys, many, key, manner, chance, rule):
    """Return (value, deed): the greatest mean that a looker can reach, and the deed with which it begins, or None."""
    _check_looker(towers, keys, many, key, manner)
    _check_lots(chance, rule)
    return Looker(tuple(keys), key, manner, chance, tuple(rule)).best(as_tuples(towers), many)


def blind_looker(towers, keys, many, key, manner, chance, cap):
    """Return (value, history): the greatest mean that a history told ahead can reach, and the shortest such one."""
    _check_looker(towers, keys, many, key, manner)
    check_chance(chance)
    check_number(cap, 1, GREATEST_CAP)
    return Blind(tuple(keys), key, manner, chance, cap).best(as_tuples(towers), many)


def _check_lots(chance, rule):
    """Raise NoChance, or NoRule if a rule is not finite."""
    check_chance(chance)
    check_finite(rule)


def _check_looker(towers, keys, many, key, manner):
    """Raise the errors of lookers, as far as they are alike."""
    check_towers(towers)
    check_new_keys(keys, [])
    check_number(many, 0, MOST_DEEDS)
    check_key(key)
    check_manner(manner)


def _check_plan(plan):
    """Raise NoPlan, with the place of the first act that is wrong, if an object is no plan."""
    place = _wrong_place(plan)
    if place is not None:
        raise NoPlan(place)


def _wrong_place(thing):
    """Return the place of the first act that is none, or where there is no row; None if an object is a plan."""
    # As plans may be nested deep, no calls stand in one another; what comes first is taken first.
    waiting = [((), thing, True)]
    while waiting:
        place, part, is_row_of_acts = waiting.pop()
        if is_row_of_acts:
            if not is_row(part):
                return place
            acts = [(place + (index,), act, False) for index, act in enumerate(part)]
            waiting.extend(acts[::-1])
        elif _is_choice(part):
            waiting.append((place + (4,), part[4], True))
            waiting.append((place + (3,), part[3], True))
        elif not is_deed(part) and not _is_pick(part):
            return place
    return None


def _is_choice(act):
    """Return whether an object is an act that does one of two plans, whatever these are."""
    if not is_row(act) or len(act) != 5 or not isinstance(act[0], str) or act[0] != "if":
        return False
    return is_whole(act[1]) and is_whole(act[2]) and act[2] >= 1


def _is_pick(act):
    """Return whether an object is an act that removes the highest or the lowest tower."""
    if not is_row(act) or len(act) != 2 or not isinstance(act[0], str) or not isinstance(act[1], str):
        return False
    return act[0] in CHOOSING and act[1] in THEN


def _lots(plan, chance, rule):
    """Return all towers that there may be behind a plan."""
    lots = Lots(chance, rule)
    lots.do(plan)
    return lots


def _parts(rule, place, many):
    """Return whether the chances change if a key is removed that was put in at a place, of so many, all alone."""
    # By a cap no key knows of the others. By step the first key has the height 1, and each later one may be as high
    # as all ahead of it allow: by step 2 that is always 2, otherwise less may be allowed without the key.
    limit = rule[1] if len(rule) == 2 else None
    if rule[0] == "cap" or limit == 1:
        return False
    if limit == 2:
        return place == 0 and many > 1
    return place < many - 1
