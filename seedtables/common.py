"""What several modules share: whole numbers, fractions, tuples of marks, and the checks of arguments."""

from math import gcd

from seedtables.errors import InvalidLot, InvalidMarks, InvalidNumber, InvalidTable

LEAST_MARKS = 2
MOST_MARKS = 5
MOST_KEYS = 8
MOST_ROWS = 128


def is_whole(value):
    """Whether a value is a whole number: True and False are none."""
    return isinstance(value, int) and not isinstance(value, bool)


def is_between(value, least, most):
    """Whether a value is a whole number from least up to most."""
    return is_whole(value) and least <= value <= most


def is_row(marks, keys, value):
    """Whether a value is a tuple of so many marks."""
    if not isinstance(value, tuple) or len(value) != keys:
        return False
    return all(is_between(mark, 0, marks - 1) for mark in value)


def is_lot(keys, value):
    """Whether a value is an ascending tuple of indexes below keys."""
    if not isinstance(value, tuple):
        return False
    least = 0
    for key in value:
        if not is_between(key, least, keys - 1):
            return False
        least = key + 1
    return True


def is_filled_tuple(value):
    """Whether a value is a tuple other than ()."""
    return isinstance(value, tuple) and len(value) > 0


def first_wrong_row(marks, rows):
    """The index of the first row that makes a tuple other than () no table, None for a table."""
    first = rows[0]
    if not is_filled_tuple(first) or len(first) > MOST_KEYS:
        return 0
    for index, row in enumerate(rows):
        if index == MOST_ROWS or not is_row(marks, len(first), row):
            return index
    return None


def check_marks(marks):
    """Raises what is told of an argument that is no number of marks."""
    if not is_between(marks, LEAST_MARKS, MOST_MARKS):
        raise InvalidMarks(marks)


def check_table(marks, table):
    """Raises what is told of marks, then what is told of an argument that is no table of them."""
    check_marks(marks)
    if not is_filled_tuple(table):
        raise InvalidTable(None)
    index = first_wrong_row(marks, table)
    if index is not None:
        raise InvalidTable(index)


def check_lot(table, lot):
    """Raises what is told of an argument that is no lot of the table's keys."""
    if not is_lot(len(table[0]), lot):
        raise InvalidLot(lot)


def check_number(value, least, most):
    """Raises what is told of an argument that is no whole number from least up to most."""
    if not is_between(value, least, most):
        raise InvalidNumber(value)


def power(base, times):
    """The product of so many times the base, 1 for none."""
    result = 1
    for _ in range(times):
        result = result * base
    return result


def fraction(above, below):
    """The fraction above / below; below is above 0."""
    divisor = gcd(above, below)
    return (above // divisor, below // divisor)
