"""Prices: what many searches cost in a row of heights, told at the roots of its tree."""

from tosslanes.counts import sums_to
from tosslanes.searches import SKIPPING, THREE_WAY


class Prices:
    """How often each key is sought, and what lies ahead of, between and behind them, by a manner.

    A row of heights is taken apart at its highest tower, of several the first one; what is less and what is greater
    likewise. Each search goes by the roots on its way, and its comparisons are told root by root.
    """

    def __init__(self, weights, misses, manner):
        self.many = len(weights)
        self.manner = manner
        sought = list(weights)
        missed = list(misses) if misses else [0] * (self.many + 1)
        self.looks = 0
        if manner not in THREE_WAY:
            # A key is then sought as what lies just ahead of it; behind lane 1 the next key is compared.
            missed = [times + (sought[at] if at < self.many else 0) for at, times in enumerate(missed)]
            sought = [0] * self.many
            self.looks = sum(missed[:-1])
        self.sought = sums_to(sought)
        self.missed = sums_to(missed)

    def of(self, heights):
        """Return the price of a row of heights."""
        price = self.looks
        parts = [(0, self.many)]
        while parts:
            low, high = parts.pop()
            if low < high:
                height = max(heights[low:high])
                root = heights.index(height, low)
                price += self.at_root(low, high, root, height)
                parts.append((low, root))
                parts.append((root + 1, high))
        return price

    def least(self, cap):
        """Return (price, heights): the least price of all rows of heights up to the cap."""
        return self._furthest(cap, 1)

    def greatest(self, cap):
        """Return (price, heights): the greatest price of all rows of heights up to the cap."""
        return self._furthest(cap, -1)

    def at_root(self, low, high, root, height):
        """Return what the searches within a part, the keys from low to high, compare at its root."""
        less = self.sought[root] - self.sought[low] + self.missed[root + 1] - self.missed[low]
        own = self.sought[root + 1] - self.sought[root]
        more = self.sought[high] - self.sought[root + 1] + self.missed[high + 1] - self.missed[root + 1]
        if self.manner in SKIPPING:
            return less + own + more
        # A search stops once in each lane up to that of the highest key behind it, or down to that of its own key.
        if high == self.many:
            return less * height + own + more
        return own - own * height + more

    def _furthest(self, cap, sign):
        """Return (price, heights) with the least price times the sign."""
        many = self.many
        # By the greatest height that is allowed: from each part (low, high) to its price times the sign.
        tables = [{(low, low): 0 for low in range(many + 1)}]
        roots = [{}]
        for height in range(1, cap + 1):
            table = {(low, low): 0 for low in range(many + 1)}
            chosen = {}
            for low in range(many - 1, -1, -1):
                for high in range(low + 1, many + 1):
                    part = (low, high)
                    table[part] = tables[-1].get(part)
                    chosen[part] = None
                    for root in range(low, high):
                        left = tables[-1].get((low, root))
                        if left is None:
                            break
                        price = left + table[(root + 1, high)] + sign * self.at_root(low, high, root, height)
                        if table[part] is None or price < table[part]:
                            table[part] = price
                            chosen[part] = root
            tables.append(table)
            roots.append(chosen)
        return self.looks + sign * tables[cap][(0, many)], _heights(roots, many)


def _heights(roots, many):
    """Return the tuple of the heights that were chosen: by the greatest height allowed, the root of each part."""
    heights = [0] * many
    parts = [(0, many, len(roots) - 1)]
    while parts:
        low, high, height = parts.pop()
        if low < high:
            root = roots[height][(low, high)]
            if root is None:
                parts.append((low, high, height - 1))
            else:
                heights[root] = height
                parts.append((low, root, height - 1))
                parts.append((root + 1, high, height))
    return tuple(heights)
