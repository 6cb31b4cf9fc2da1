"""Sources of keys: how near to even marks come, for one source and for all of them without great chances."""

from itertools import combinations

from seedtables.common import check_number, check_table, fraction_of, have_sum_1, is_above, is_part, is_tuple_of
from seedtables.common import over_one_number
from seedtables.counts import counts_in
from seedtables.errors import InvalidFraction, InvalidSource


def off(marks, table, source):
    """How far row and mark are from a row and a mark drawn evenly beside it, for keys drawn by the source."""
    check_table(marks, table)
    check_source(table, source)
    parts, whole = over_one_number(source)
    # Each size is told times the marks and the whole.
    sizes = [abs(marks * chance - whole) for row in table for chance in chances_of_marks(marks, row, parts)]
    return fraction_of(sum(sizes), 2 * marks * whole * len(table))


def like_chance(marks, table, source):
    """The chance that two keys drawn by the source have one mark in a row drawn beside."""
    check_table(marks, table)
    check_source(table, source)
    above, below = like_parts(marks, table, source)
    return fraction_of(above, below)


def off_bound(marks, table, source):
    """The number that the square of the off is at most."""
    check_table(marks, table)
    check_source(table, source)
    above, below = like_parts(marks, table, source)
    return fraction_of(marks * above - below, 4 * below)


def worst_off(marks, table, size):
    """The greatest off of all sources with no chance above 1 / size."""
    check_table(marks, table)
    check_number(size, 1, len(table[0]))
    return worst_flat(marks, table, size)[0]


def worst_lot(marks, table, size):
    """A lot of so many keys whose flat source has the greatest off."""
    check_table(marks, table)
    check_number(size, 1, len(table[0]))
    return worst_flat(marks, table, size)[1]


def least_size(marks, table, fraction):
    """The least size for which the greatest off is at most the fraction, None if there is none."""
    check_table(marks, table)
    if not is_part(fraction):
        raise InvalidFraction(fraction)
    for size in range(1, len(table[0]) + 1):
        if not is_above(worst_flat(marks, table, size)[0], fraction):
            return size
    return None


def check_source(table, source):
    """Raises what is told of an argument that is no source of the table."""
    if not is_tuple_of(len(table[0]), source):
        raise InvalidSource(None)
    for index, chance in enumerate(source):
        if not is_part(chance):
            raise InvalidSource(index)
    if not have_sum_1(source):
        raise InvalidSource(None)


def chances_of_marks(marks, row, parts):
    """For each mark the sum of the parts of the keys that have it in the row, as a list."""
    chances = [0] * marks
    for mark, part in zip(row, parts):
        chances[mark] += part
    return chances


def like_parts(marks, table, source):
    """Two numbers of which the first one over the second one is the like chance."""
    parts, whole = over_one_number(source)
    squares = [chance * chance for row in table for chance in chances_of_marks(marks, row, parts)]
    return sum(squares), whole * whole * len(table)


def flat_source(keys, lot):
    """The source with one chance for each key of the lot."""
    return tuple([(1, len(lot)) if key in lot else (0, 1) for key in range(keys)])


def worst_flat(marks, table, size):
    """The greatest off of the flat sources of so many keys, and the first lot whose source has it."""
    most, found = 0, None
    for lot in combinations(range(len(table[0])), size):
        parts = flat_parts(marks, table, lot)
        if found is None or parts > most:
            most, found = parts, lot
    return fraction_of(most, 2 * marks * size * len(table)), found


def flat_parts(marks, table, lot):
    """Twice the off of the lot's flat source, times its keys, the marks and the rows."""
    total = 0
    for row in table:
        counts = counts_in(marks, [row[key] for key in lot])
        total += sum([abs(marks * count - len(lot)) for count in counts])
    return total
