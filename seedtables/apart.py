"""Telling apart: rows that tell the keys of a lot apart, rows that part two lots, framed keys, how few rows let."""

from itertools import combinations
from math import comb

from seedtables.common import check_lot, check_marks, check_number, check_table, fraction_of, power
from seedtables.errors import InvalidLot

MOST_KEYS_APART = 1000000
MOST_APART = 5


def apart_share(marks, table, lot):
    """The share of rows that tell the lot apart."""
    check_table(marks, table)
    check_lot(table, lot)
    return fraction_of(len(rows_apart(table, lot)), len(table))


def is_apart_up_to(marks, table, size):
    """Whether each lot of so many keys is told apart by some row."""
    check_table(marks, table)
    check_number(size, 1, len(table[0]))
    return first_blind_lot(table, size) is None


def blind_lot(marks, table, size):
    """The first lot of so many keys that no row tells apart, None if there is none."""
    check_table(marks, table)
    check_number(size, 1, len(table[0]))
    return first_blind_lot(table, size)


def is_parted(marks, table, lot, other):
    """Whether some row parts the two lots."""
    check_table(marks, table)
    check_lot(table, lot)
    check_lot(table, other)
    if [key for key in other if key in lot] != []:
        raise InvalidLot(other)
    return some_row_parts(table, lot, other)


def framed(marks, table, size):
    """A pair of a key and a lot of so many keys by which it is framed, None if there is none."""
    check_table(marks, table)
    keys = len(table[0])
    check_number(size, 1, keys - 1)
    for key in range(keys):
        for lot in combinations([one for one in range(keys) if one != key], size):
            if not some_row_parts(table, (key,), lot):
                return (key, lot)
    return None


def rows_let(marks, keys, size):
    """The least number of rows that both bounds let for tables apart up to the size; None for more than the marks."""
    check_marks(marks)
    check_number(keys, 2, MOST_KEYS_APART)
    check_number(size, 2, min(MOST_APART, keys))
    if size > marks:
        return None
    lots, told_by_a_row = comb(keys, size), lots_dealt(marks, keys, size)
    rows = 1
    while keys > most_keys(marks, rows, size - 1) or lots > rows * told_by_a_row:
        rows += 1
    return rows


def tells_apart(row, lot):
    """Whether no two marks of the row are alike on the lot."""
    return len(set([row[key] for key in lot])) == len(lot)


def rows_apart(table, lot):
    """The indexes of the rows that tell the lot apart, as a list."""
    return [index for index, row in enumerate(table) if tells_apart(row, lot)]


def first_blind_lot(table, size):
    """The first lot of so many keys that no row tells apart, None if there is none."""
    for lot in combinations(range(len(table[0])), size):
        if rows_apart(table, lot) == []:
            return lot
    return None


def some_row_parts(table, lot, other):
    """Whether in some row no mark of the one lot is one of the other lot."""
    for row in table:
        seen = [row[key] for key in lot]
        if [key for key in other if row[key] in seen] == []:
            return True
    return False


def most_keys(marks, rows, parts):
    """How many keys there may be if each is alone with its marks in one of so many parts of the rows."""
    longest = -(-rows // parts)
    return parts * power(marks, longest)


def lots_dealt(marks, keys, size):
    """How many lots of so many keys a row tells apart in which the marks come as evenly as they can."""
    whole, rest = keys // marks, keys % marks
    # In turn for each mark: how many lots of 0, 1, .. keys the marks up to it tell apart.
    lots = [1] + [0] * size
    for mark in range(marks):
        there = whole + 1 if mark < rest else whole
        lots = [1] + [lots[many] + lots[many - 1] * there for many in range(1, size + 1)]
    return lots[size]
