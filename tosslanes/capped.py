"""Chances of records and costs by a cap: sums over all heights, in whole multiples of 1 / below."""

from tosslanes.counts import cost_counts, cost_parts, further_records, sums_to, top_counts
from tosslanes.shares import moments, powers_of, share, spread, to_power


class Capped:
    """The heights up to a cap; a height has the chance weight / whole."""

    def __init__(self, chance, cap):
        part, below = share(chance[0], chance[1])
        parts = powers_of(part, cap - 1)
        belows = powers_of(below, cap - 1)
        self.weights = [(below - part) * parts[at] * belows[cap - 2 - at] for at in range(cap - 1)]
        self.weights.append(parts[cap - 1])
        self.sums = sums_to(self.weights)
        self.whole = self.sums[cap]

    def at_most(self, height):
        """Return the chance that a key is at most so high."""
        return share(self.sums[min(height, len(self.weights))], self.whole)

    def top_mean(self, many):
        """Return the mean of the top of so many keys."""
        return share(moments(top_counts(self.weights, many))[1], to_power(self.whole, many))

    def record_chance(self, many, is_weak):
        """Return the chance that one height behind so many others is a record of them."""
        # It exceeds those up to the height below it; a weak record also exceeds none that is as high.
        bounds = self.sums[1:] if is_weak else self.sums[:-1]
        count = sum([weight * to_power(bounds[at], many) for at, weight in enumerate(self.weights)])
        return share(count, to_power(self.whole, many + 1))

    def record_counts(self, many, is_weak):
        """Return (counts, below): the chances, by the number of records of so many heights."""
        return further_records(self.weights, many, is_weak)[0], to_power(self.whole, many)

    def cost_row(self, before, behind, manner):
        """Return (counts, below): the chances, by the number of comparisons."""
        return cost_counts(self.weights, before, behind, manner), to_power(self.whole, before + behind + 1)

    def cost_chance(self, before, behind, manner, compares):
        """Return the chance that a search makes just so many comparisons."""
        count = 0
        for weight, lefts, rises in cost_parts(self.weights, before, behind, manner):
            for rights, left in enumerate(lefts[:compares]):
                rise = compares - 1 - rights
                if rise < len(rises):
                    count += weight * left * rises[rise]
        return share(count, to_power(self.whole, before + behind + 1))

    def cost_at_most(self, before, behind, manner, compares):
        """Return the chance that a search makes at most so many comparisons."""
        count = 0
        for weight, lefts, rises in cost_parts(self.weights, before, behind, manner):
            sums = sums_to(rises)
            for rights, left in enumerate(lefts[:compares]):
                count += weight * left * sums[min(compares - rights, len(rises))]
        return share(count, to_power(self.whole, before + behind + 1))

    def cost_spread(self, before, behind, manner):
        """Return the mean of the square of the comparisons, less the square of their mean."""
        first = 0
        second = 0
        for weight, lefts, rises in cost_parts(self.weights, before, behind, manner):
            left = moments(lefts)
            rise = moments(rises)
            first += weight * (left[1] * rise[0] + left[0] * rise[1])
            second += weight * (left[2] * rise[0] + 2 * left[1] * rise[1] + left[0] * rise[2])
        return spread(first, second, to_power(self.whole, before + behind + 1))
