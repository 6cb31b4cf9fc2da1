"""What the document tells, worked out straight from its words, without regard to time."""

from collections import Counter
from fractions import Fraction
from itertools import combinations, product
from math import comb


def pair(number):
    """The fraction of the document for a number."""
    number = Fraction(number)
    return (number.numerator, number.denominator)


def number(fraction):
    return Fraction(*fraction)


def patterns(marks, size):
    return list(product(range(marks), repeat=size))


def at(row, lot):
    return tuple(row[key] for key in lot)


def count(table, lot, pattern):
    return len([row for row in table if at(row, lot) == pattern])


def counts(marks, table, lot):
    come = Counter(at(row, lot) for row in table)
    return [come[pattern] for pattern in patterns(marks, len(lot))]


def lots(keys, size):
    return list(combinations(range(keys), size))


def all_lots(keys):
    return [lot for size in range(keys + 1) for lot in lots(keys, size)]


def within(lot):
    """All lots within a lot but ()."""
    return [inner for size in range(1, len(lot) + 1) for inner in combinations(lot, size)]


def is_even(marks, table, lot):
    come = Counter(at(row, lot) for row in table)
    return len(come) == marks ** len(lot) and len(set(come.values())) == 1


def strength(marks, table):
    keys = len(table[0])
    even_up_to = [t for t in range(keys + 1) if all(is_even(marks, table, lot) for lot in lots(keys, t))]
    return max(even_up_to)


def lean(marks, table, lot):
    total = 0
    for row in table:
        for other in table:
            term = 1
            for key in lot:
                term *= marks - 1 if row[key] == other[key] else -1
            total += term
    return Fraction(total, len(table) ** 2)


def unevenness(marks, table, lot):
    mean = Fraction(len(table), marks ** len(lot))
    return sum((one - mean) ** 2 for one in counts(marks, table, lot))


def likenesses(table):
    keys = len(table[0])
    pairs = [0] * (keys + 1)
    for row in table:
        for other in table:
            pairs[len([key for key in range(keys) if row[key] != other[key]])] += 1
    return tuple(pairs)


def weight(marks, keys, j, i):
    """K_j(i)."""
    return sum((-1) ** h * (marks - 1) ** (j - h) * comb(i, h) * comb(keys - i, j - h) for h in range(j + 1))
