"""Chances of the comparisons of two searches in the same towers, lane by lane.

The keys of a lane are told by a number: its bit i is the key with the index i. As coins forget, what is above a lane
has the chances of its keys put into nothing; and lanes are alike if as many keys stand at each side of those sought.
"""

from tosslanes.searches import SKIPPING, THREE_WAY
from tosslanes.shares import share, to_power


class Pair:
    """Searches for two of so many keys, told by their indexes; without a greatest height cap is None."""

    def __init__(self, chance, cap, many, keys, manner):
        self.part, self.whole = share(chance[0], chance[1])
        self.cap = cap
        self.sought = keys
        self.manner = manner
        self.full = (1 << many) - 1
        kinds = [_kind(lane, many, keys) for lane in range(self.full + 1)]
        self.moves = {lane: self._moves(lane, kinds) for lane in range(self.full + 1) if kinds[lane] == lane}
        self.gaps = {lane: self._gap(_size(lane)) for lane in self.moves}
        # All chances are whole multiples of 1 / below.
        self.below = 1
        for size in range(1, many + 1):
            self.below *= self._gap(size)
        if cap is not None:
            self.below = to_power(self.whole, many * (cap - 1))

    def counts(self):
        """Return (counts, below): the chances, by pairs of numbers of comparisons."""
        if self.cap is None:
            rows = {0: {(0, 0): self.below}}
            for lane in self.moves:
                if lane > 0:
                    rows[lane] = {}
                    rows[lane] = self._counts_of(lane, rows)
        else:
            rows = {lane: {self._alone(lane): self.below} for lane in self.moves}
            for _ in range(self.cap - 1):
                below = rows
                rows = {lane: self._counts_of(lane, below) for lane in self.moves}
        looks = 0 if self.manner in THREE_WAY else 1
        return {(one + looks, other + looks): count for (one, other), count in rows[self.full].items()}, self.below

    def spread(self):
        """Return the mean of the product of both numbers, less the product of their means."""
        if self.cap is None:
            rows = {0: (0, 0, 0)}
            for lane in self.moves:
                if lane > 0:
                    # The mean of the product wants both means, where the same lane comes again.
                    rows[lane] = (0, 0, 0)
                    one, other, _ = self._means_of(lane, rows)
                    rows[lane] = (one, other, 0)
                    rows[lane] = (one, other, self._means_of(lane, rows)[2])
        else:
            rows = {}
            for lane in self.moves:
                one, other = self._alone(lane)
                rows[lane] = (one * self.below, other * self.below, one * other * self.below ** 2)
            for _ in range(self.cap - 1):
                below = rows
                rows = {lane: self._means_of(lane, below) for lane in self.moves}
        one, other, both = rows[self.full]
        return share(both - one * other, self.below ** 2)

    def _gap(self, size):
        """Return what is left for so many keys, in multiples of 1 / whole ** size, if all going on is solved for."""
        if self.cap is None:
            return to_power(self.whole, size) - to_power(self.part, size)
        return to_power(self.whole, size)

    def _moves(self, lane, kinds):
        """Return the dict from each (kind of lane above, comparisons of both) to its chance times whole ** size."""
        moves = {}
        size = _size(lane)
        above = lane
        while above >= 0:
            going = _size(above)
            weight = to_power(self.part, going) * to_power(self.whole - self.part, size - going)
            one, other = [_compares(lane, above, key, self.manner) for key in self.sought]
            move = (kinds[above], one, other)
            moves[move] = moves.get(move, 0) + weight
            above = ((above - 1) & lane) if above > 0 else -1
        return moves

    def _alone(self, lane):
        """Return the comparisons of both in the top lane."""
        return tuple([_compares(lane, 0, key, self.manner) for key in self.sought])

    def _counts_of(self, lane, rows):
        """Return the counts of a lane by those of the lanes that may be above it."""
        whole = {}
        for (above, one, other), weight in self.moves[lane].items():
            for (first, second), count in rows[above].items():
                pair = (first + one, second + other)
                whole[pair] = whole.get(pair, 0) + weight * count
        return {pair: count // self.gaps[lane] for pair, count in whole.items()}

    def _means_of(self, lane, rows):
        """Return both means, times below, and that of the product, times below ** 2, by those of the lanes above."""
        sums = [0, 0, 0]
        for (above, one, other), weight in self.moves[lane].items():
            first, second, both = rows[above]
            sums[0] += weight * (first + one * self.below)
            sums[1] += weight * (second + other * self.below)
            both += (one * second + other * first + one * other * self.below) * self.below
            sums[2] += weight * both
        return tuple([total // self.gaps[lane] for total in sums])


def _compares(lane, above, key, manner):
    """Return how many comparisons a search makes in a lane, the last look left out."""
    if manner in THREE_WAY and above >> key & 1 == 1:
        return 0
    many = 0
    at = key - 1
    while at >= 0 and above >> at & 1 == 0:
        many += lane >> at & 1
        at -= 1
    ahead = lane >> key
    # The lowest bit is the next key that is not less.
    following = ahead & -ahead
    if following == 0 or (manner in SKIPPING and (above >> key) & following > 0):
        return many
    return many + 1


def _size(lane):
    """Return how many keys are in a lane."""
    return sum([lane >> at & 1 for at in range(lane.bit_length())])


def _kind(lane, many, keys):
    """Return the least lane that is alike: with the same keys of those sought, and as many at each side of them."""
    kind = 0
    low = 0
    for key in (*keys, many):
        part = lane >> low & ((1 << (key - low)) - 1)
        kind |= ((1 << _size(part)) - 1) << low
        kind |= lane & (1 << key)
        low = key + 1
    return kind
