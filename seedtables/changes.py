"""Tables made of tables: keys alone, marks exchanged, rows beside one another, products, fewer marks."""

from seedtables.common import LEAST_MARKS, MOST_KEYS, MOST_ROWS
from seedtables.common import check_key, check_many, check_table, is_between, is_filled_tuple, is_row
from seedtables.errors import InvalidKeys, InvalidMap, InvalidMarks, InvalidOrder, UnlikeTables


def with_keys(marks, table, keys):
    """The rows' marks at these keys, in their order."""
    check_table(marks, table)
    check_keys(len(table[0]), keys)
    return tuple([tuple([row[key] for key in keys]) for row in table])


def exchanged(marks, table, key, order):
    """The table in which at the key the mark m becomes order[m]."""
    check_table(marks, table)
    check_key(table, key)
    if not is_order(marks, order):
        raise InvalidOrder(order)
    return tuple([(*row[:key], order[row[key]], *row[key + 1:]) for row in table])


def rows_beside(marks, table, other):
    """The rows of both tables, those of the first one ahead."""
    check_table(marks, table)
    check_table(marks, other)
    if len(table[0]) != len(other[0]):
        raise UnlikeTables()
    check_many(len(table) + len(other), MOST_ROWS)
    return table + other


def product(marks, table, other):
    """For each row of the first table, in order, each row of the other one, in order, behind it."""
    check_table(marks, table)
    check_table(marks, other)
    check_many(len(table[0]) + len(other[0]), MOST_KEYS)
    check_many(len(table) * len(other), MOST_ROWS)
    return tuple([row + second for row in table for second in other])


def led(marks, table, fewer, images):
    """The table in which each mark m becomes images[m], one of fewer marks."""
    check_table(marks, table)
    check_fewer(marks, fewer)
    if not is_even_map(marks, fewer, images):
        raise InvalidMap(images)
    return tuple([tuple([images[mark] for mark in row]) for row in table])


def check_keys(many, keys):
    """Raises what is told of an argument that is no tuple of unlike indexes below many, or is ()."""
    if not is_filled_tuple(keys):
        raise InvalidKeys(None)
    for index, key in enumerate(keys):
        if not is_between(key, 0, many - 1) or key in keys[:index]:
            raise InvalidKeys(index)


def check_fewer(marks, fewer):
    """Raises what is told of an argument that is no number of marks up to these that divides them."""
    if not is_between(fewer, LEAST_MARKS, marks) or marks % fewer != 0:
        raise InvalidMarks(fewer)


def is_order(marks, value):
    """Whether a value is a tuple of all marks, each once."""
    return is_row(marks, marks, value) and sorted(value) == list(range(marks))


def is_even_map(marks, fewer, value):
    """Whether a value is a tuple with a mark of the fewer ones for each mark, all of them alike often."""
    if not is_row(fewer, marks, value):
        return False
    return all([value.count(mark) * fewer == marks for mark in range(fewer)])
