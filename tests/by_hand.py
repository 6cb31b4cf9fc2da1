"""What the document tells, worked out straight from its words, without regard to time."""

from collections import Counter
from fractions import Fraction
from itertools import combinations, product
from math import comb, factorial


def pair(number):
    """The fraction of the document for a number."""
    number = Fraction(number)
    return (number.numerator, number.denominator)


def number(fraction):
    return Fraction(*fraction)


def patterns(marks, size):
    return list(product(range(marks), repeat=size))


def at(row, lot):
    return tuple(row[key] for key in lot)


def count(table, lot, pattern):
    return len([row for row in table if at(row, lot) == pattern])


def counts(marks, table, lot):
    come = Counter(at(row, lot) for row in table)
    return [come[pattern] for pattern in patterns(marks, len(lot))]


def lots(keys, size):
    return list(combinations(range(keys), size))


def all_lots(keys):
    return [lot for size in range(keys + 1) for lot in lots(keys, size)]


def within(lot):
    """All lots within a lot but ()."""
    return [inner for size in range(1, len(lot) + 1) for inner in combinations(lot, size)]


def is_even(marks, table, lot):
    come = Counter(at(row, lot) for row in table)
    return len(come) == marks ** len(lot) and len(set(come.values())) == 1


def strength(marks, table):
    keys = len(table[0])
    even_up_to = [t for t in range(keys + 1) if all(is_even(marks, table, lot) for lot in lots(keys, t))]
    return max(even_up_to)


def lean(marks, table, lot):
    total = 0
    for row in table:
        for other in table:
            term = 1
            for key in lot:
                term *= marks - 1 if row[key] == other[key] else -1
            total += term
    return Fraction(total, len(table) ** 2)


def unevenness(marks, table, lot):
    mean = Fraction(len(table), marks ** len(lot))
    return sum((one - mean) ** 2 for one in counts(marks, table, lot))


def likenesses(table):
    keys = len(table[0])
    pairs = [0] * (keys + 1)
    for row in table:
        for other in table:
            pairs[len([key for key in range(keys) if row[key] != other[key]])] += 1
    return tuple(pairs)


def weight(marks, keys, j, i):
    """K_j(i)."""
    return sum((-1) ** h * (marks - 1) ** (j - h) * comb(i, h) * comb(keys - i, j - h) for h in range(j + 1))


def all_counts(marks, many):
    return sorted(one for one in product(range(many + 1), repeat=marks) if sum(one) == many)


def all_powers(marks, size):
    return sorted(one for one in product(range(size + 1), repeat=marks - 1) if sum(one) <= size)


def counts_in(marks, row):
    return tuple(len([one for one in row if one == mark]) for mark in range(marks))


def lots_product(counts, powers):
    """The product over the marks but the last one of the number of lots of j_m of n_m things."""
    ways = 1
    for mark, power in enumerate(powers):
        ways *= comb(counts[mark], power)
    return ways


def falling_mean(counts, shares, powers):
    return sum(number(share) * lots_product(one, powers) for one, share in zip(counts, shares, strict=True))


def even_mean(marks, many, powers):
    ways = factorial(many)
    for power in (*powers, many - sum(powers)):
        ways //= factorial(power)
    return Fraction(ways, marks ** sum(powers))


def mean(shares, question):
    return sum(number(share) * number(one) for share, one in zip(shares, question, strict=True))
