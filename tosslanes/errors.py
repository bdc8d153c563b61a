"""The errors that the functions of this package raise."""


class LaneError(ValueError):
    """The base of all errors of this package."""


class NoTowers(LaneError):
    """The argument is not towers; index tells the first element that is wrong, -1 no row."""

    def __init__(self, index):
        self.index = index


class NoKey(LaneError):
    """This is no key, or not one that can stand here."""

    def __init__(self, key):
        self.key = key


class NoKeys(LaneError):
    """The argument is no row of keys; index tells the first element that is wrong, -1 no row."""

    def __init__(self, index):
        self.index = index


class NoNumber(LaneError):
    """This is no integer, or one that is out of its bounds."""

    def __init__(self, value):
        self.value = value


class NoRule(LaneError):
    """The argument is no rule, or none that can stand here."""


class NoCoins(LaneError):
    """The argument is no row of coins; index tells the first element that is wrong, -1 no row."""

    def __init__(self, index):
        self.index = index


class Short(LaneError):
    """The coins do not last; index tells where one more is wanted."""

    def __init__(self, index):
        self.index = index


class Spare(LaneError):
    """Coins are left over; index tells the first one that nothing uses."""

    def __init__(self, index):
        self.index = index


class NoHeights(LaneError):
    """The argument is no row of heights; index tells the first element that is wrong, -1 no row."""

    def __init__(self, index):
        self.index = index


class NoManner(LaneError):
    """The argument is no manner of searching."""


class NoHistory(LaneError):
    """The argument is no history; index tells the first element that is wrong, -1 no row."""

    def __init__(self, index):
        self.index = index


class NoText(LaneError):
    """The argument is no text of the form that is wanted; place tells where, -1 no text."""

    def __init__(self, place):
        self.place = place


class NoChance(LaneError):
    """The argument is no chance."""


class NoSort(LaneError):
    """The argument is no sort of records."""


class NoJoin(LaneError):
    """Not all keys of the first towers are less than those of the second ones."""


class NoItems(LaneError):
    """The argument is no scored row; index tells the first element that is wrong, -1 no row."""

    def __init__(self, index):
        self.index = index


class NoName(LaneError):
    """This is no name, or not one that can stand here."""

    def __init__(self, name):
        self.name = name


class NoGaps(LaneError):
    """The towers are not gapped as they must be."""


class NoTree(LaneError):
    """The argument is no tree of the form that is wanted."""


class NoWeights(LaneError):
    """The argument is no row of weights; index tells the first element that is wrong, -1 no row."""

    def __init__(self, index):
        self.index = index


class NoMisses(LaneError):
    """The argument is no row of misses; index tells the first element that is wrong, -1 no row."""

    def __init__(self, index):
        self.index = index


class NoPlan(LaneError):
    """The argument is no plan; place tells the indexes that lead to the first act that is wrong."""

    def __init__(self, place):
        self.place = place


class NoSeen(LaneError):
    """The argument is not what can be seen; index tells the first element that is wrong, -1 no row."""

    def __init__(self, index):
        self.index = index


class NoSeeks(LaneError):
    """The argument is no row of seeks; index tells the first element that is wrong, -1 no row."""

    def __init__(self, index):
        self.index = index


class Never(LaneError):
    """What was seen cannot come of any towers."""


class NoAct(LaneError):
    """The argument is no act that fits the towers."""


class NoOrder(LaneError):
    """The argument is no order of writes."""


class NoTurns(LaneError):
    """The argument is no row of turns; index tells the first element that is wrong, -1 no row."""

    def __init__(self, index):
        self.index = index


class NoLine(LaneError):
    """A desk refuses a line; row tells which is the first, -1 no row of lines."""

    def __init__(self, row):
        self.row = row
