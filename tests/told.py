"""What the tests share: objects of many types, and strict comparisons."""

import copy
import unittest

from tosslanes.errors import LaneError

LONG = 123456789012345678901234567890


def a_generator():
    yield 1


def odd_things():
    """Objects of many built-in types, new ones each time; none is a row, an integer or a string."""
    return [
        None, True, False, b"", b"10", bytearray(b"10"), memoryview(b"10"), {}, {0: 1}, {"free": 1}, set(), {0, 1},
        frozenset([1]), range(2), slice(1), object(), Ellipsis, NotImplemented, int, list, len, [].append, iter([1]),
        enumerate([1]), zip([1]), reversed([1]), map(len, []), filter(len, []), a_generator(), lambda: 1, unittest,
        {1: 1}.items(), {1: 1}.keys(), {1: 1}.values(), ValueError("x"), property(),
    ]


def no_integers():
    return odd_things() + ["", "1", "free", [], [1], (), (1,)]


def no_rows():
    """What stands where no row is: also an integer, and texts."""
    return odd_things() + [0, 1, -1, LONG, "", "1", "10", "free"]


def nested(depth):
    """A row that is nested so deep."""
    row = []
    for _ in range(depth):
        row = [row]
    return row


class Case(unittest.TestCase):
    def same(self, found, wanted):
        """The same value, of the same types throughout (True is not 1, a list is no tuple)."""
        self.assertEqual(found, wanted)
        self.assertEqual(repr(found), repr(wanted))

    def fails(self, error, told, function, *values, **named):
        """The call raises just this error, and the error has just these attributes, the very values."""
        with self.assertRaises(LaneError) as caught:
            function(*values, **named)
        self.assertIs(caught.exception.__class__, error)
        found = vars(caught.exception)
        self.assertEqual(sorted(found), sorted(told))
        for name, value in told.items():
            if isinstance(value, int) and not isinstance(value, bool):
                self.same(found[name], value)
            else:
                self.assertIs(found[name], value)

    def keeps(self, function, *values):
        """The call changes nothing that it is passed; its result, changed, has no effect on the next call."""
        ahead = copy.deepcopy(values)
        first = function(*values)
        self.same(values, ahead)
        told = copy.deepcopy(first)
        if isinstance(first, list):
            first.append("more")
            first.reverse()
        second = function(*values)
        self.same(second, told)
        self.same(values, ahead)
        # Nothing that is returned may be a list that was passed.
        for value in values:
            self.assertFalse(isinstance(value, list) and second is value)
        return told
