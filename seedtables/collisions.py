"""Collisions: how often two keys are alike, the worst pair of keys, the least that the worst one can be."""

from itertools import combinations
from math import comb

from seedtables.common import check_key, check_marks, check_number, check_table, fraction_of
from seedtables.errors import InvalidTable

MOST_KEYS_SPREAD = 60


def collision(marks, table, one, two):
    """The share of rows in which the two keys are alike."""
    check_table(marks, table)
    check_key(table, one)
    check_key(table, two)
    return fraction_of(like_rows(table, one, two), len(table))


def worst_collision(marks, table):
    """The greatest collision of two unlike keys, 0 for a table of one key."""
    check_table(marks, table)
    rows, _ = most_alike(table)
    return fraction_of(rows, len(table))


def worst_pair(marks, table):
    """The first pair of unlike keys that has the worst collision, None for a table of one key."""
    check_table(marks, table)
    _, pair = most_alike(table)
    return pair


def least_worst(marks, keys):
    """The least that the worst collision of a table with so many keys can be."""
    check_marks(marks)
    check_number(keys, 2, MOST_KEYS_SPREAD)
    return fraction_of(like_pairs_dealt(marks, keys), comb(keys, 2))


def reaches_least(marks, table):
    """Whether the worst collision is the least that it can be."""
    check_spread_table(marks, table)
    keys = len(table[0])
    rows, _ = most_alike(table)
    return rows * comb(keys, 2) == like_pairs_dealt(marks, keys) * len(table)


def check_spread_table(marks, table):
    """Raises what is told of an argument that is no table, or one of one key."""
    check_table(marks, table)
    if len(table[0]) == 1:
        raise InvalidTable(None)


def like_rows(table, one, two):
    """In how many rows the two keys are alike."""
    return sum([1 for row in table if row[one] == row[two]])


def most_alike(table):
    """In how many rows some two unlike keys are alike at most, and the first pair of them that is, or None."""
    most, found = 0, None
    for one, two in combinations(range(len(table[0])), 2):
        rows = like_rows(table, one, two)
        if found is None or rows > most:
            most, found = rows, (one, two)
    return most, found


def like_pairs_dealt(marks, keys):
    """How many pairs of keys are alike in a row in which the marks come as evenly as they can."""
    whole, rest = keys // marks, keys % marks
    return rest * comb(whole + 1, 2) + (marks - rest) * comb(whole, 2)
