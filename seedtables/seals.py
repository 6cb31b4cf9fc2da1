"""Seals: how well marks hold against forging by somebody who has seen those of a lot."""

from itertools import combinations

from seedtables.common import check_lot, check_number, check_table, fraction_of, is_between, is_row, is_tuple_of
from seedtables.errors import InvalidForgery, InvalidLot
from seedtables.tables import coming_counts


def forging_chance(marks, table, lot):
    """The greatest share of a forgery for the lot."""
    check_seen_lot(marks, table, lot)
    return fraction_of(forged_rows(marks, table, lot), len(table))


def best_forgery(marks, table, lot):
    """A forgery for the lot with the greatest share."""
    check_seen_lot(marks, table, lot)
    return tuple([triple for _, triple in best_triples(marks, table, lot)])


def forged_share(marks, table, lot, forgery):
    """The share of rows that have the forgery's mark for their pattern at its key."""
    check_seen_lot(marks, table, lot)
    check_forgery(marks, table, lot, forgery)
    rows = rows_by_pattern(table, lot)
    met = [sum([1 for row in rows[pattern] if row[key] == mark]) for pattern, key, mark in forgery]
    return fraction_of(sum(met), len(table))


def worst_forging(marks, table, size):
    """The greatest forging chance behind a lot of so many keys."""
    check_table(marks, table)
    check_number(size, 0, len(table[0]) - 1)
    most = 0
    for lot in combinations(range(len(table[0])), size):
        most = max(most, forged_rows(marks, table, lot))
    return fraction_of(most, len(table))


def check_seen_lot(marks, table, lot):
    """Raises what is told of a table, then what is told of an argument that is no lot, or that of all keys."""
    check_table(marks, table)
    check_lot(table, lot)
    if len(lot) == len(table[0]):
        raise InvalidLot(lot)


def check_forgery(marks, table, lot, forgery):
    """Raises what is told of an argument that is no forgery for the lot."""
    patterns = sorted(coming_counts(table, lot))
    if not is_tuple_of(len(patterns), forgery):
        raise InvalidForgery(None)
    for index, pattern in enumerate(patterns):
        if not is_triple(marks, table, lot, pattern, forgery[index]):
            raise InvalidForgery(index)


def is_triple(marks, table, lot, pattern, value):
    """Whether a value is a triple of this pattern on the lot, a key that is not in the lot, and a mark."""
    if not is_tuple_of(3, value):
        return False
    first, key, mark = value
    if not is_row(marks, len(lot), first) or first != pattern:
        return False
    return is_between(key, 0, len(table[0]) - 1) and key not in lot and is_between(mark, 0, marks - 1)


def rows_by_pattern(table, lot):
    """The rows with each pattern on the lot that comes, by pattern."""
    rows = {}
    for row in table:
        rows.setdefault(tuple([row[key] for key in lot]), []).append(row)
    return rows


def best_triples(marks, table, lot):
    """For each pattern that comes, ascending, how many rows its best triple meets, and this triple."""
    rows = rows_by_pattern(table, lot)
    further = [key for key in range(len(table[0])) if key not in lot]
    return [best_triple(marks, rows[pattern], pattern, further) for pattern in sorted(rows)]


def best_triple(marks, rows, pattern, further):
    """How many of the rows with this pattern have some mark at some further key at most, and the triple of it."""
    most, found = 0, None
    for key in further:
        marks_there = [row[key] for row in rows]
        for mark in range(marks):
            many = marks_there.count(mark)
            if many > most:
                most, found = many, (pattern, key, mark)
    return most, found


def forged_rows(marks, table, lot):
    """How many rows the best forgery for the lot meets."""
    return sum([many for many, _ in best_triples(marks, table, lot)])
