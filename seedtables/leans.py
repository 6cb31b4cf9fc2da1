"""Leans of lots, unevenness, likenesses of rows and their transform."""

from math import comb

from seedtables.common import check_lot, check_table, fraction_of, power
from seedtables.tables import coming_counts


def lean(marks, table, lot):
    """The lean of the lot."""
    check_table(marks, table)
    check_lot(table, lot)
    # With the keys of the lot alone there is just one lot of so many keys.
    return leans_together(marks, likenesses_on(table, lot), len(lot))


def unevenness(marks, table, lot):
    """The sum, over all patterns on the lot, of (count - mean count) ^ 2."""
    check_table(marks, table)
    check_lot(table, lot)
    squares = sum([count * count for count in coming_counts(table, lot).values()])
    many = power(marks, len(lot))
    # The counts have the sum N, so the sum told is that of their squares less N N / v^t.
    return fraction_of(squares * many - len(table) * len(table), many)


def likenesses(marks, table):
    """How many pairs of rows have unlike marks at just 0, 1, .. keys."""
    check_table(marks, table)
    return tuple(likenesses_on(table, all_keys(table)))


def transform(marks, table):
    """The sums of the leans of all lots of 0, 1, .. keys."""
    check_table(marks, table)
    keys = all_keys(table)
    pairs = likenesses_on(table, keys)
    return tuple([leans_together(marks, pairs, many) for many in range(len(keys) + 1)])


def all_keys(table):
    """The lot of all keys of the table."""
    return tuple(range(len(table[0])))


def likenesses_on(table, lot):
    """The likenesses of the table with the keys of the lot alone, as a list."""
    counts = coming_counts(table, lot)
    pairs = [0] * (len(lot) + 1)
    for one in counts:
        for other in counts:
            pairs[unlike_places(one, other)] += counts[one] * counts[other]
    return pairs


def unlike_places(one, other):
    """At how many places two tuples of the same length are unlike."""
    return sum([1 for mark, second in zip(one, other) if mark != second])


def leans_together(marks, pairs, many):
    """The sum of the leans of all lots of so many keys, told by the likenesses alone."""
    keys = len(pairs) - 1
    weighed = [count * character_sum(marks, keys, many, unlike) for unlike, count in enumerate(pairs)]
    return fraction_of(sum(weighed), sum(pairs))


def character_sum(marks, keys, many, unlike):
    """The document's K_j(i): j is how many keys the lots have, i at how many keys two rows are unlike."""
    total = 0
    for taken in range(many + 1):
        ways = comb(unlike, taken) * comb(keys - unlike, many - taken)
        total += power(-1, taken) * power(marks - 1, many - taken) * ways
    return total
