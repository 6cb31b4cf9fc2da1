"""Tables for the tests, written down or made by plain rules of numbers, so that a run is always the same."""

from fractions import Fraction
from itertools import product
from math import comb

BIT = ((0,), (1,))
LINES = ((0, 0), (1, 1), (2, 2))
TRIPLED = ((0, 0, 0), (0, 1, 1), (1, 0, 1), (1, 1, 0))
ODD = ((0, 0, 1), (0, 1, 0), (1, 0, 0), (1, 1, 1))


def all_tables(marks, keys, rows):
    """Each table of these marks with so many keys and rows."""
    return product(product(range(marks), repeat=keys), repeat=rows)


def mixed_table(marks, keys, rows, start):
    """A table whose marks follow one another without a plain order."""
    state, table = start, []
    for _ in range(rows):
        row = []
        for _ in range(keys):
            state = (state * 1103515245 + 12345) % 2 ** 31
            row.append((state >> 16) % marks)
        table.append(tuple(row))
    return tuple(table)


def weighed_table(marks, weights):
    """A row for each tuple of marks, in order, with its sum of weights times marks at each key."""
    return tuple(
        tuple(sum(map(int.__mul__, row, weight)) % marks for weight in weights)
        for row in product(range(marks), repeat=len(weights[0]))
    )


def units(size):
    return tuple(tuple(int(i == j) for j in range(size)) for i in range(size))


def with_sum(marks, size):
    """All tuples of so many marks, each with its sum behind it: even up to size, not beyond."""
    return weighed_table(marks, units(size) + ((1,) * size,))


# Triples of marks, table, strength.
STRONG = (
    (2, BIT, 1),
    (2, TRIPLED, 2),
    (2, ODD, 2),
    (2, TRIPLED + ODD, 3),
    (2, with_sum(2, 7), 7),
    (2, weighed_table(2, units(7)), 7),
    (2, weighed_table(2, tuple((1, *x) for x in product((0, 1), repeat=3))), 3),
    (2, weighed_table(2, tuple((1, *x) for x in product((0, 1), repeat=3))) * 8, 3),
    (2, ((0,) * 8, (1,) * 8), 1),
    (2, ((0,) * 8,), 0),
    (3, LINES, 1),
    (3, weighed_table(3, ((1, 0), (0, 1), (1, 1), (1, 2))), 2),
    (3, with_sum(3, 3), 3),
    (3, with_sum(3, 4), 4),
    (3, weighed_table(3, units(4)), 4),
    (3, tuple((m,) * 8 for m in (0, 1, 2)) * 42, 1),
    (4, with_sum(4, 2), 2),
    (4, with_sum(4, 3), 3),
    (4, with_sum(4, 3) * 2, 3),
    (4, weighed_table(4, ((1, 0), (0, 1), (1, 1), (1, 2))), 1),
    (4, weighed_table(4, units(3)), 3),
    (4, tuple((m,) * 8 for m in range(4)) * 32, 1),
    (5, weighed_table(5, tuple((1, x, x * x) for x in range(5))), 3),
    (5, weighed_table(5, tuple((1, x % 5) for x in range(8))), 1),
    (5, weighed_table(5, units(3)), 3),
    (5, weighed_table(5, units(2)) * 5, 2),
    (5, tuple((m,) * 8 for m in range(5)), 1),
    (5, ((4,) * 8,) * 128, 0),
)

# Pairs of marks and a table: of all marks, with one key and with eight, with one row and with some more.
MIXED = tuple(
    (marks, mixed_table(marks, keys, rows, 7 * marks + 31 * keys + 101 * rows))
    for marks in (2, 3, 4, 5)
    for keys, rows in ((1, 1), (1, 6), (2, 1), (2, 9), (3, 4), (3, 16), (4, 7), (5, 12), (6, 5), (8, 1), (8, 6))
)

# As many rows as there may be, and as many keys: more patterns than rows for all marks.
GREAT = tuple((marks, mixed_table(marks, 8, 128, marks)) for marks in (2, 3, 4, 5))

# All numbers of marks and of keys with no more than 60 counts.
FEW_COUNTS = tuple(
    (marks, many) for marks in (2, 3, 4, 5) for many in range(1, 9) if comb(many + marks - 1, many) <= 60
)
MANY_COUNTS = tuple(
    (marks, many) for marks in (2, 3, 4, 5) for many in range(1, 9) if comb(many + marks - 1, many) > 60
)


def pair(number):
    return (number.numerator, number.denominator)


def questions(length):
    """Questions with so many elements: of all signs, of 0 and 1 alone, of whole numbers, with all alike."""
    return (
        tuple(pair(Fraction((at * at * 37 + at * 11) % 101 - 50, (at * 29 + 7) % 13 + 1)) for at in range(length)),
        tuple((int((at * at + 3 * at) % 5 < 2), 1) for at in range(length)),
        tuple((-((at * 7 + 2) % 4), 1) for at in range(length)),
        ((0, 1),) * (length - 1) + ((1, 1),),
        ((-2, 7),) * length,
    )


def shares_by_rule(length, start):
    """Shares of so many counts, some of them 0."""
    parts = [((at + start) * (at + 3) * 7 + start) % 11 * ((at + start) % 3) for at in range(length)]
    parts[start % length] += 1
    return tuple(pair(Fraction(part, sum(parts))) for part in parts)
