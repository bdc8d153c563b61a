"""Checks of arguments that several modules share."""

from tosslanes.errors import NoKey, NoKeys, NoNumber


def is_whole(thing):
    """Return whether an object is an integer; True and False are none."""
    return isinstance(thing, int) and not isinstance(thing, bool)


def is_row(thing):
    """Return whether an object is a row: a list or a tuple."""
    return isinstance(thing, (list, tuple))


def first_wrong(thing, is_right):
    """Return the index of the first element that is not right, -1 if there is no row, None if all is right."""
    if not is_row(thing):
        return -1
    for index, element in enumerate(thing):
        if not is_right(element):
            return index
    return None


def check_number(value, least, greatest=None):
    """Raise NoNumber if a value is no integer from the least to the greatest one (None: without end)."""
    if not is_whole(value) or value < least:
        raise NoNumber(value)
    if greatest is not None and value > greatest:
        raise NoNumber(value)


def check_key(key):
    """Raise NoKey if a key is no integer."""
    if not is_whole(key):
        raise NoKey(key)


def check_new_keys(keys, there):
    """Raise NoKeys for the first key that is no integer, or stands in `there` or earlier in the row."""
    if not is_row(keys):
        raise NoKeys(-1)
    taken = set(there)
    for index, key in enumerate(keys):
        if not is_whole(key) or key in taken:
            raise NoKeys(index)
        taken.add(key)
