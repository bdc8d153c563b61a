"""Fractions, pairs (top, below) in lowest terms, and polynomials, lists of the factors of the powers from 0 up."""

from math import comb, gcd

NOTHING = (0, 1)
ALL = (1, 1)


def share(top, below):
    """Return the fraction top / below in lowest terms; below is 1 or more."""
    divisor = gcd(top, below)
    return top // divisor, below // divisor


def plus(one, other):
    """Return the sum of two fractions."""
    return share(one[0] * other[1] + other[0] * one[1], one[1] * other[1])


def minus(one, other):
    """Return the first fraction less the second one."""
    return share(one[0] * other[1] - other[0] * one[1], one[1] * other[1])


def times(one, other):
    """Return the product of two fractions."""
    return share(one[0] * other[0], one[1] * other[1])


def to_power(base, exponent):
    """Return an integer to the power of an integer from 0."""
    product = 1
    while exponent > 0:
        if exponent & 1:
            product *= base
        exponent >>= 1
        if exponent > 0:
            base *= base
    return product


def powers_of(base, greatest):
    """Return the list of the powers of an integer, from 0 to the greatest one."""
    powers = [1]
    for _ in range(greatest):
        powers.append(powers[-1] * base)
    return powers


def power(one, exponent):
    """Return a fraction to the power of an integer from 0."""
    return to_power(one[0], exponent), to_power(one[1], exponent)


def sum_of(shares):
    """Return the sum of a list of fractions."""
    whole = NOTHING
    for one in shares:
        whole = plus(whole, one)
    return whole


def sums_of(shares):
    """Return the list of the sums of the first 0, 1, 2, .. fractions of a list."""
    sums = [NOTHING]
    for one in shares:
        sums.append(plus(sums[-1], one))
    return sums


def is_less(one, other):
    """Return whether the first fraction is less than the second one."""
    return one[0] * other[1] < other[0] * one[1]


def dict_of(counts, below):
    """Return the dict, rising, from each index with a count above 0 to its fraction of below."""
    return {index: share(count, below) for index, count in enumerate(counts) if count > 0}


def added(one, other):
    """Return the sum of two polynomials."""
    if len(one) < len(other):
        return added(other, one)
    return [count + other[at] if at < len(other) else count for at, count in enumerate(one)]


def scaled(factor, row):
    """Return a polynomial times a number."""
    return [factor * count for count in row]


def folded(one, other):
    """Return the product of two polynomials."""
    product = [0] * (len(one) + len(other) - 1)
    for at, count in enumerate(one):
        for place, factor in enumerate(other):
            product[at + place] += count * factor
    return product


def binomial(first, second, exponent):
    """Return the polynomial (first + second * x) ** exponent."""
    firsts = powers_of(first, exponent)
    seconds = powers_of(second, exponent)
    return [comb(exponent, at) * firsts[exponent - at] * seconds[at] for at in range(exponent + 1)]


def moments(counts):
    """Return (sum of all counts, sum of those times their index, sum of those times its square)."""
    first = sum([at * count for at, count in enumerate(counts)])
    second = sum([at * at * count for at, count in enumerate(counts)])
    return sum(counts), first, second


def spread(first, second, below):
    """Return the spread of what has the mean first / below and the mean square second / below."""
    return minus(share(second, below), power(share(first, below), 2))
