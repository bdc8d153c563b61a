"""Counts of rows of heights up to a cap: each row counts as the product of the weights of its heights."""

from tosslanes.shares import added, folded, scaled, to_power


def cost_counts(weights, before, behind, manner):
    """Return, by the number of comparisons, the counts of the rows around a key that is sought.

    There are so many keys before it and behind it; weights are those of the heights 1, 2, .., the cap.
    """
    counts = []
    for weight, lefts, rises in cost_parts(weights, before, behind, manner):
        counts = added(counts, scaled(weight, folded(lefts, rises)))
    return [0] + counts


def cost_parts(weights, before, behind, manner):
    """Return a list of (weight, lefts, rises), the counts by the moves to the right, and by what else is compared.

    In each part these do not know of one another; there is one comparison more.
    """
    lefts = further_records(weights, before, True)
    if manner == "plain":
        return [(1, lefts[0], top_counts(weights, behind + 1))]
    if manner == "lean":
        return [(1, lefts[0], further_records(weights, behind + 1, False)[0])]
    # The key is found in its highest lane: a part for each height of it.
    if manner == "early":
        rises = _rises(weights, behind)
    else:
        rises = further_records(weights, behind, False)
    return [(weight, lefts[at + 1], rises[at + 1]) for at, weight in enumerate(weights)]


def further_records(weights, many, is_weak):
    """Return, for each greatest height so far (from 0), the counts by the number of records in so many heights more."""
    sums = sums_to(weights)
    rows = [[1]] * (len(weights) + 1)
    for _ in range(many):
        rows = _one_more(rows, weights, sums, is_weak)
    return rows


def top_counts(weights, many):
    """Return, by the top, the counts of rows of so many heights."""
    powers = [to_power(total, many) for total in sums_to(weights)]
    return [powers[0]] + _differences(powers)


def sums_to(weights):
    """Return, by the height, the sums of the weights up to it."""
    sums = [0]
    for weight in weights:
        sums.append(sums[-1] + weight)
    return sums


def _one_more(rows, weights, sums, is_weak):
    """Return what further_records returns for one height more: the first one, ahead of those of the rows."""
    longer = []
    record = [0] * len(rows[0])
    for greatest in range(len(weights), -1, -1):
        # From the greatest height down one height more is a record.
        new = greatest if is_weak else greatest + 1
        if 1 <= new <= len(weights):
            record = added(record, scaled(weights[new - 1], rows[new]))
        lower = sums[max(new - 1, 0)]
        longer.append(added([0] + record, scaled(lower, rows[greatest])))
    return longer[::-1]


def _rises(weights, many):
    """Return, for each height (from 0), the counts by how much the top of it and of so many more is above it."""
    powers = [to_power(total, many) for total in sums_to(weights)]
    return [[powers[at]] + _differences(powers[at:]) for at in range(len(powers))]


def _differences(row):
    """Return by how much each element but the first one exceeds the one before it."""
    return [row[at + 1] - row[at] for at in range(len(row) - 1)]
