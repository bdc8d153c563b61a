"""What the tests share: objects of many types, and strict comparisons."""

import copy
import unittest

from tosslanes.errors import LaneError

LONG = 123456789012345678901234567890


def a_generator():
    yield 1


def odd_things():
    """Objects of many built-in types, new ones each time; none is a row, an integer or a string."""
    return [
        None, True, False, b"", b"10", bytearray(b"10"), memoryview(b"10"), {}, {0: 1}, {"free": 1}, set(), {0, 1},
        frozenset([1]), range(2), slice(1), object(), Ellipsis, NotImplemented, int, list, len, [].append, iter([1]),
        enumerate([1]), zip([1]), reversed([1]), map(len, []), filter(len, []), a_generator(), lambda: 1, unittest,
        {1: 1}.items(), {1: 1}.keys(), {1: 1}.values(), ValueError("x"), property(),
    ]


def no_integers():
    return odd_things() + ["", "1", "free", [], [1], (), (1,)]


def no_rows():
    """What stands where no row is: also an integer, and texts."""
    return odd_things() + [0, 1, -1, LONG, "", "1", "10", "free"]


def nested(depth):
    """A row that is nested so deep."""
    row = []
    for _ in range(depth):
        row = [row]
    return row


# What is no towers, and the index that is told.
WRONG_TOWERS = [
    ([3], 0), ([(3,)], 0), ([()], 0), ([(3, 1, 1)], 0), ([(3, 0)], 0), ([(3, -1)], 0), ([(3, True)], 0),
    ([(True, 1)], 0), ([(False, 1)], 0), ([("3", 1)], 0), ([(3, "1")], 0), ([(3, None)], 0), ([(None, 1)], 0),
    ([(3, 1), (3, 1)], 1), ([(3, 1), (2, 1)], 1), (((3, 1), (4, 1), (4, 2)), 2), (((3, 1), (4, 0), (2, 0)), 1),
    (((3, 1), (4, 1), "51"), 2), (((3, 1), {5: 1, 6: 1}), 1), (((3, 1), {5, 6}), 1), (((3, 1), range(4, 6)), 1),
    (((3, 1), b"aa"), 1), (((3, 1), None, (2, 1)), 1), (((3, 1), (2, 1), None), 1), (((3, 1), (2, 1), (1, 1)), 1),
    ([(LONG, 1), (LONG - 1, 1)], 1), ([(LONG, 1), (LONG, 1)], 1), ([(3, 1), ([4], 1)], 1), ([(3, 1), (4, [1])], 1),
    ([(5, 1), (6, 1), (7, 1), (True, 1)], 3), (nested(3), 0), ([nested(3000)], 0), ([nested(2), nested(2)], 0),
]

NO_RULES = [
    (), [], ("free", 1), ("free", None), ("cap",), ("cap", 0), ("cap", 65), ("cap", -1), ("cap", LONG), ("cap", True),
    ("cap", "3"), ("cap", None), ("cap", [3]), ("cap", 3, 3), ("step", 0), ("step", 65), ("step", -1),
    ("step", True), ("step", False), ("step", None), ("step", ()), ("step", 3, 3), ("Free",), ("FREE",), ("",),
    ("free ",), ("steps",), ("cups", 3), (b"free",), (b"cap", 3), (None,), (1,), (1, 3), (True, 3), ([], 3),
    (("free",),), [["step"]], [("cap", 3)], (3, "cap"), nested(3), nested(3000), ["free", "free"], "step", "cap",
]

NO_CHANCES = [
    (0, 1), (1, 1), (2, 1), (-1, 2), (1, -2), (1, 1001), (1000, 1001), (1,), (1, 2, 3), (), (True, 2),
    (1, True), ("1", 2), (1, "2"), [None, 2], ((1, 2),), (False, 1),
]

NO_HISTORIES = [
    ([("insert",)], 0), ([("insert", 1, 1)], 0), ([("Insert", 1)], 0), ([("put", 1)], 0), ([("insert", "1")], 0),
    ([("remove", None)], 0), ([("seek", True)], 0), ([("seek", False)], 0), ([()], 0), ([[]], 0), (["seek"], 0),
    ([(1, "seek")], 0), ([(None, 1)], 0), ([(["seek"], 1)], 0), ([(b"seek", 1)], 0), ([nested(3000)], 0),
    ([("seek", [1])], 0), ([{"seek": 1, "b": 2}], 0), ([("if", 1, 1, (), ())], 0), ([("tallest", "remove")], 0),
    ([("seek", 1), ("insert", 1), ("", 1), None], 2), ((("seek", 1), None, ("", 1)), 1), ([("seek", 1), 1], 1),
]


def _indexed(wrong):
    return [(thing, {"index": index}) for thing, index in wrong] + [(thing, {"index": -1}) for thing in no_rows()]


def of_towers():
    """Things that are no towers, each with what NoTowers tells."""
    return _indexed(WRONG_TOWERS)


def of_history():
    return _indexed(NO_HISTORIES)


def of_rows(*wrong):
    """Rows whose third element is wrong, and so are others behind it; and what is no row."""
    rows = [([1, 1, thing, None, thing], {"index": 2}) for thing in no_integers() + list(wrong)]
    return rows + [((thing,), {"index": 0}) for thing in no_integers() + list(wrong)] + [
        (thing, {"index": -1}) for thing in no_rows()
    ]


def of_key():
    return [(thing, {"key": thing}) for thing in no_integers()]


def of_number(*wrong):
    return [(thing, {"value": thing}) for thing in no_integers() + list(wrong)]


def of_new_keys(*there):
    """Rows in which an element is no integer, or was there already, and what is no row."""
    rows = [([5, 6, thing, None], {"index": 2}) for thing in no_integers() + [5, 6, *there]]
    rows += [((thing, thing), {"index": 0}) for thing in no_integers() + list(there)]
    return rows + [((7, 7), {"index": 1})] + [(thing, {"index": -1}) for thing in no_rows()]


def of_manner():
    wrong = ["Plain", "plain ", "", "leaner", b"plain", ["plain"], ("plain",), 0, 1, 3]
    return [(thing, {}) for thing in odd_things() + wrong]


def of_rule(*wrong):
    return [(thing, {}) for thing in NO_RULES + list(wrong) + no_rows()]


def of_chance():
    return [(thing, {}) for thing in NO_CHANCES + no_rows()]


def spoil(thing):
    """Change all lists and dicts of a result."""
    if isinstance(thing, dict):
        thing["more"] = thing.popitem() if thing else None
    elif isinstance(thing, (list, tuple)):
        for part in thing:
            spoil(part)
        if isinstance(thing, list):
            thing.append("more")
            thing.reverse()


class Case(unittest.TestCase):
    def same(self, found, wanted):
        """The same value, of the same types throughout (True is not 1, a list is no tuple)."""
        self.assertEqual(found, wanted)
        self.assertEqual(repr(found), repr(wanted))

    def fails(self, error, told, function, *values, **named):
        """The call raises just this error, and the error has just these attributes, the very values."""
        with self.assertRaises(LaneError) as caught:
            function(*values, **named)
        self.assertIs(caught.exception.__class__, error)
        found = vars(caught.exception)
        self.assertEqual(sorted(found), sorted(told))
        for name, value in told.items():
            if isinstance(value, int) and not isinstance(value, bool):
                self.same(found[name], value)
            else:
                self.assertIs(found[name], value)

    def keeps(self, function, *values):
        """The call changes nothing that it is passed; its result, changed, has no effect on the next call."""
        ahead = copy.deepcopy(values)
        first = function(*values)
        self.same(values, ahead)
        told = copy.deepcopy(first)
        spoil(first)
        second = function(*values)
        self.same(second, told)
        self.same(values, ahead)
        # Nothing that is returned may be a list that was passed.
        for value in values:
            self.assertFalse(isinstance(value, list) and second is value)
        return told

    def refuses(self, function, right, checks):
        """Each argument that is wrong is told, also if all that is checked behind it is wrong, too.

        The checks stand in their order: (place of the argument, error, things with what the error tells of them).
        """
        for at, (place, error, things) in enumerate(checks):
            for thing, told in things:
                with self.subTest(function.__name__, place=place):
                    values = list(right)
                    values[place] = thing
                    self.fails(error, told, function, *values)
                    for later, _, others in checks[at + 1:]:
                        if later != place:
                            values[later] = others[0][0]
                    self.fails(error, told, function, *values)
