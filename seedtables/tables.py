"""Tables whose rows are drawn evenly: counts of patterns, evenness, strength, uneven lots."""

from itertools import combinations

from seedtables.common import check_lot, check_many, check_marks, check_number, check_table, first_wrong_row
from seedtables.common import is_filled_tuple, power

MOST_PATTERNS = 1024


def is_table(marks, value):
    """Whether a value, whatever it is, is a table of these marks."""
    check_marks(marks)
    return is_filled_tuple(value) and first_wrong_row(marks, value) is None


def pattern_counts(marks, table, lot):
    """How many rows have each pattern on the lot, ascending by pattern."""
    check_table(marks, table)
    check_lot(table, lot)
    many = power(marks, len(lot))
    check_many(many, MOST_PATTERNS)
    counts = coming_counts(table, lot)
    return tuple([counts.get(pattern_at(marks, len(lot), index), 0) for index in range(many)])


def is_even_on(marks, table, lot):
    """Whether all patterns on the lot have one count."""
    check_table(marks, table)
    check_lot(table, lot)
    return comes_evenly(marks, table, lot)


def strength(marks, table):
    """The greatest size up to the number of keys for which the table is even on each lot of so many."""
    check_table(marks, table)
    size = 0
    while size < len(table[0]) and first_uneven_lot(marks, table, size + 1) is None:
        size += 1
    return size


def uneven_lot(marks, table, size):
    """A lot of so many keys with two patterns on it of unlike counts, None if there is none."""
    check_table(marks, table)
    check_number(size, 0, len(table[0]))
    lot = first_uneven_lot(marks, table, size)
    if lot is None:
        return None
    often, rare = unlike_patterns(marks, table, lot)
    return (lot, often, rare)


def pattern_at(marks, size, index):
    """The pattern of so many keys at this index among all of them, ascending."""
    pattern = ()
    rest = index
    for _ in range(size):
        pattern = (rest % marks, *pattern)
        rest = rest // marks
    return pattern


def coming_counts(table, lot):
    """The count of each pattern on the lot that comes in some row, by pattern."""
    counts = {}
    for row in table:
        pattern = tuple([row[key] for key in lot])
        counts[pattern] = counts.get(pattern, 0) + 1
    return counts


def comes_evenly(marks, table, lot):
    """Whether all patterns on the lot have one count, for arguments that are right."""
    counts = coming_counts(table, lot)
    # All counts together are the rows, so all are alike exactly if the greatest one is their mean.
    return max(counts.values()) * power(marks, len(lot)) == len(table)


def first_uneven_lot(marks, table, size):
    """The first lot of so many keys on which the table is not even, None if there is none."""
    for lot in combinations(range(len(table[0])), size):
        if not comes_evenly(marks, table, lot):
            return lot
    return None


def unlike_patterns(marks, table, lot):
    """Two patterns on an uneven lot: the first of the greatest count, and the first of a lesser one."""
    counts = coming_counts(table, lot)
    most = max(counts.values())
    often = min([pattern for pattern in counts if counts[pattern] == most])
    # There are no more patterns with a count above 0 than rows, so this ends soon among however many.
    index = 0
    while counts.get(pattern_at(marks, len(lot), index), 0) == most:
        index += 1
    return (often, pattern_at(marks, len(lot), index))
