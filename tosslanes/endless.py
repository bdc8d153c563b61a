"""Chances of records and costs by the rule free, where the sums over all heights are solved by powers.

A key is at least h high with the chance x = p ** (h - 1). Whatever else depends on the height h of a key is a
polynomial in x, and the mean of x ** e over all heights is (1 - p) / (1 - p ** (e + 1)).
"""

from math import comb

from tosslanes.shares import (
    ALL, NOTHING, added, binomial, folded, minus, moments, plus, power, powers_of, scaled, share, spread, to_power,
)


class Endless:
    """The heights without a greatest one, of at most `many` keys; p is part / whole.

    As coins forget, chances of n keys are solved by 1 - p ** n, then by 1 - p ** (n - 1), and so on. So those of
    records are whole multiples of 1 / below, where below is the product of whole ** n - part ** n over all n.
    """

    def __init__(self, chance, many):
        self.part, self.whole = share(chance[0], chance[1])
        self.parts = powers_of(self.part, many)
        self.wholes = powers_of(self.whole, many)
        self.gaps = [self.wholes[at] - self.parts[at] for at in range(many + 1)]
        self.below = 1
        for gap in self.gaps[1:]:
            self.below *= gap

    def at_most(self, height):
        """Return the chance that a key is at most so high."""
        return minus(ALL, power((self.part, self.whole), height))

    def top_mean(self, many):
        """Return the mean of the top of so many keys."""
        return share(sum(self._rise_row(many, self.wholes)), self.below)

    def record_chance(self, many, is_weak):
        """Return the chance that one height behind so many others is a record of them."""
        if is_weak:
            lower = binomial(self.whole, -self.part, many)
            return share(self._mean_over(lower), self.below * self.wholes[many])
        return share(self._mean_over(binomial(1, -1, many)), self.below)

    def record_counts(self, many, is_weak):
        """Return (counts, below): the chances, by the number of records of so many heights."""
        return self._record_rows(many, is_weak)[many], self.below

    def cost_row(self, before, behind, manner):
        """Return (counts, below): the chances, by the number of comparisons; the manner is lean or sharp."""
        lefts = self._record_rows(before, True)
        if manner == "lean":
            rights = self._record_rows(behind + 1, False)
            return [0] + folded(lefts[before], rights[behind + 1]), self.below ** 2
        rights = self._record_rows(behind, False)
        counts = []
        for many, left in enumerate(_reaching(before, 1, 1)):
            row = []
            for other, right in enumerate(_reaching(behind, self.part, self.whole)):
                row = added(row, scaled(self._mean_over(folded(left, right)), rights[other]))
            counts = added(counts, folded(lefts[many], row))
        return [0] + counts, self.below ** 3 * self.wholes[behind]

    def cost_at_most(self, before, behind, manner, compares):
        """Return the chance that a search makes at most so many comparisons."""
        if manner == "plain":
            return self._plain_at_most(before, behind + 1, compares)
        if manner == "early":
            return self._early_at_most(before, behind, compares)
        counts, below = self.cost_row(before, behind, manner)
        return share(sum(counts[:compares + 1]), below)

    def cost_chance(self, before, behind, manner, compares):
        """Return the chance that a search makes just so many comparisons."""
        # Each search for a key that is there makes one.
        if compares == 0:
            return NOTHING
        at_most = self.cost_at_most(before, behind, manner, compares)
        return minus(at_most, self.cost_at_most(before, behind, manner, compares - 1))

    def cost_spread(self, before, behind, manner):
        """Return the mean of the square of the comparisons, less the square of their mean."""
        if manner == "early":
            return self._early_spread(before, behind)
        if manner == "plain":
            counts, below = self.record_counts(before, True)
            rises = self._rise_row(behind + 1, self.wholes)
            squares = self._rise_squares(behind + 1, self.wholes)
            top_spread = spread(sum(rises) * self.below, sum(squares), self.below ** 2)
        else:
            counts, below = self.cost_row(before, behind, manner)
            top_spread = NOTHING
        whole, first, second = moments(counts)
        return plus(spread(first, second, below), top_spread)

    def _mean_over(self, row):
        """Return the mean of a polynomial in x over all heights of a key, times below."""
        rest = self.whole - self.part
        return sum([
            count * rest * self.wholes[at] * (self.below // self.gaps[at + 1]) for at, count in enumerate(row)
        ])

    def _record_rows(self, many, is_weak):
        """Return, for each number of heights up to `many`, the chances by the number of records, times below."""
        part, whole = (1, 1) if is_weak else (self.part, self.whole)
        rows = [[self.below]]
        for others in range(many):
            # Further records are those of the heights that reach (or exceed) the first one.
            row = []
            for count, chance in enumerate(_reaching(others, part, whole)):
                row = added(row, scaled(self._mean_over(chance) // to_power(whole, others), rows[count]))
            rows.append([0] + [count // self.below for count in row])
        return rows

    def _plain_at_most(self, before, many, compares):
        """Return what cost_at_most returns for the manner plain: the last `many` keys are not less."""
        count = 0
        for rights, chance in enumerate(self._record_rows(before, True)[before][:compares]):
            rise = compares - 1 - rights
            lower = (to_power(self.whole, rise) - to_power(self.part, rise)) * to_power(self.whole, rights)
            count += chance * to_power(lower, many)
        return share(count, self.below * to_power(self.whole, max(compares - 1, 0) * many))

    def _early_at_most(self, before, behind, compares):
        """Return what cost_at_most returns for the manner early."""
        lefts = self._record_rows(before, True)
        reaching = _reaching(before, 1, 1)
        count = 0
        for rights in range(min(before + 1, compares)):
            left = []
            for many in range(rights, before + 1):
                left = added(left, scaled(lefts[many][rights], reaching[many]))
            rise = compares - rights
            lower = binomial(to_power(self.whole, rise), -to_power(self.part, rise), behind)
            count += self._mean_over(folded(left, lower)) * to_power(self.whole, rights * behind)
        return share(count, self.below ** 2 * to_power(self.whole, compares * behind))

    def _early_spread(self, before, behind):
        """Return what cost_spread returns for the manner early."""
        # The rights and the rise to the top do not know of one another once the height of the key is given.
        lefts = []
        left_squares = []
        for row, chance in zip(self._record_rows(before, True), _reaching(before, 1, 1)):
            whole, first, second = moments(row)
            lefts = added(lefts, scaled(first, chance))
            left_squares = added(left_squares, scaled(second, chance))
        rises = self._rise_row(behind, self.parts)
        squares = added(scaled(self.below, left_squares), self._rise_squares(behind, self.parts))
        squares = added(squares, scaled(2, folded(lefts, rises)))
        mean = self._mean_over(added(lefts, rises))
        return spread(mean * self.below, self._mean_over(squares), self.below ** 3)

    def _rise_row(self, many, powers):
        """Return, by the powers of x, the mean rise from a height to the top of so many keys, times below.

        The powers are the parts for the height of a key; for the top itself they are the wholes, as if x were 1 / p.
        """
        return [0] + [
            _by_turns(many, at) * powers[at] * (self.below // self.gaps[at]) for at in range(1, many + 1)
        ]

    def _rise_squares(self, many, powers):
        """Return what _rise_row returns for the squares of the rises, times below ** 2."""
        sums = [self.parts[at] + self.wholes[at] for at in range(many + 1)]
        return [0] + [
            _by_turns(many, at) * powers[at] * sums[at] * (self.below // self.gaps[at]) ** 2
            for at in range(1, many + 1)
        ]


def _by_turns(many, at):
    """Return the binomial number with the sign that it has in the chance that not all of many keys are lower."""
    return comb(many, at) if at & 1 else -comb(many, at)


def _reaching(many, part, whole):
    """Return, by the count, the polynomials in x of the chances that just so many of many keys reach another one.

    A key does so with the chance x * part / whole: 1 / 1 to be as high, p to be higher. All are times whole ** many.
    """
    return [
        [0] * count + scaled(comb(many, count) * to_power(part, count), binomial(whole, -part, many - count))
        for count in range(many + 1)
    ]
