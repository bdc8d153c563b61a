"""Texts: pictures of towers, coins and histories as texts, and back."""

from tosslanes.coins import check_coins
from tosslanes.deeds import check_history, is_deed
from tosslanes.errors import NoText
from tosslanes.figures import whole_of
from tosslanes.towers import check_towers, tallest


def show(towers):
    """Return a picture of towers: a row of text for each lane, from the top down."""
    check_towers(towers)
    return "\n".join([_row(towers, level) for level in range(tallest(towers), 0, -1)])


def read(text):
    """Return the towers of a picture."""
    _check_text(text)
    if text == "":
        return ()
    rows = text.split("\n")
    keys = _keys(rows[-1])
    if keys is None:
        raise NoText(len(rows) - 1)
    towers = [(key, 1) for key in keys]
    for place in range(len(rows) - 2, -1, -1):
        towers = _raised(towers, rows[place], len(rows) - place)
        if towers is None:
            raise NoText(place)
    return tuple(towers)


def show_coins(coins):
    """Return the text of a row of coins."""
    check_coins(coins)
    return "".join([str(coin) for coin in coins])


def read_coins(text):
    """Return the tuple of the coins of a text."""
    _check_text(text)
    for place, sign in enumerate(text):
        if sign not in ("0", "1"):
            raise NoText(place)
    return tuple([int(sign) for sign in text])


def show_history(history):
    """Return the text of a history."""
    check_history(history)
    return "; ".join([f"{word} {key}" for word, key in history])


def read_history(text):
    """Return the history of a text, a tuple of tuples."""
    _check_text(text)
    if text == "":
        return ()
    deeds = []
    for place, part in enumerate(text.split("; ")):
        word, blank, key = part.partition(" ")
        deed = (word, whole_of(key))
        if not is_deed(deed):
            raise NoText(place)
        deeds.append(deed)
    return tuple(deeds)


def _check_text(text):
    """Raise NoText if an object is no text."""
    if not isinstance(text, str):
        raise NoText(-1)


def _row(towers, level):
    """Return the row of text of a lane."""
    parts = [f">{key}" if height >= level else "-" * len(f">{key}") for key, height in towers]
    return f"{level} " + "".join(parts) + ">"


def _keys(row):
    """Return the list of the keys of the row of lane 1, None if it is none."""
    if not row.startswith("1 >") or not row.endswith(">"):
        return None
    keys = [whole_of(part) for part in row[3:-1].split(">")]
    if None in keys:
        return None
    if any([keys[at] >= keys[at + 1] for at in range(len(keys) - 1)]):
        return None
    return keys


def _raised(towers, row, level):
    """Return towers with those one higher whose keys are in the row of the lane above; None if there is no such row."""
    raised = []
    ahead = f"{level} "
    for key, height in towers:
        # Only what is in the lane below can be in this one.
        shown = f">{key}"
        is_higher = height == level - 1 and row[len(ahead):len(ahead) + len(shown)] == shown
        ahead += shown if is_higher else "-" * len(shown)
        raised.append((key, level if is_higher else height))
    if row != ahead + ">" or tallest(raised) < level:
        return None
    return raised
